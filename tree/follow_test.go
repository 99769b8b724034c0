package tree_test

import (
	"fmt"
	"maps"
	"slices"
	"strings"
	"testing"

	"annex/api"
	"annex/dir"
	"annex/file"
	"annex/inode"
	"annex/space"
	"annex/tree"
)

// TestP12_9Quota: exact to the byte, over two files, with holes and without.
func TestP12_9Quota(t *testing.T) {
	for _, quota := range []int{0, 1, 2, 511, 512, 513, 4096, 4097, 10000, 69632, 69633, 139264} {
		g := groundOf(t, 3, quota)
		g.made(256, "a", "b")
		first := min(quota/2, 69632)
		if first > 0 {
			g.ok(write(257, first-1, "x"))
			g.commit()
		}
		left := quota - first
		if left <= 69632 {
			g.status(write(258, left-min(left, 1), strings.Repeat("y", min(left, 1)+1)), quotaOr(left))
		}
		if left > 0 {
			g.ok(write(258, left-1, "y"))
			g.commit()
		}
		g.usage(quota, 3)
		for id, size := range map[int]int{257: first, 258: left} {
			g.status(write(id, size, "z"), quotaOr(size))
			if size > 0 {
				g.ok(write(id, 0, "z"))
				g.ok(write(id, size-1, "z"))
				g.status(write(id, size-1, "zz"), quotaOr(size))
				g.ok(write(id, max(0, size-1024), strings.Repeat("w", min(size, 1024))))
			}
		}
		g.usage(quota, 3)
		g.commit()
		g.ok(op(api.Remove, 256, "a"))
		g.usage(left, 2)
		g.ok(op(api.Create, 256, "c"))
		if first > 0 {
			g.ok(write(513, first-1, "x"))
		}
		g.usage(quota, 3)
	}
}

// quotaOr is the Status of a WRITE that goes one byte above the quota, from a size on: the greatest size comes first.
func quotaOr(size int) api.Errno {
	if size == 69632 {
		return api.ErrFBig
	}
	return api.ErrQuota
}

// TestP12_9Slots: ErrInodes, just if each slot is in use.
func TestP12_9Slots(t *testing.T) {
	for _, slots := range []int{2, 3, 4, 5, 8, 9, 63, 64} {
		g := groundOf(t, slots, 0)
		for i := range slots - 1 {
			is(t, "the id", g.ok(op(api.Create+2*(i%2), 256, fmt.Sprint("n", i))).Attr.Id, 257+i)
			g.commit()
		}
		g.status(op(api.Create, 256, "x"), api.ErrInodes)
		g.status(op(api.Mkdir, 256, "x"), api.ErrInodes)
		for i := range slots - 1 {
			g.ok(op(api.Remove+2*(i%2), 256, fmt.Sprint("n", i)))
			is(t, "the id", g.ok(op(api.Create+2*(i%2), 256, fmt.Sprint("n", i))).Attr.Id, 512+1+i)
			g.status(op(api.Mkdir, 256, "x"), api.ErrInodes)
			g.commit()
		}
	}
}

// TestP12_9UsedUp: a slot of the last generation is not taken again.
func TestP12_9UsedUp(t *testing.T) {
	m := newImage(t, shapeOf(4, 0))
	m.record(0, api.Inode{Id: 256, Kind: 2})
	m.record(1, api.Inode{Id: 1 << 48})
	m.record(2, api.Inode{Id: 1<<48 - 256})
	m.record(3, api.Inode{Id: 1 << 48})
	g := m.ground(t)
	is(t, "the id", g.ok(op(api.Create, 256, "f")).Attr.Id, 1<<48+2)
	g.status(op(api.Create, 256, "g"), api.ErrInodes)
	g.ok(op(api.Remove, 256, "f"))
	g.status(op(api.Create, 256, "f"), api.ErrInodes)
	g.status(op(api.Mkdir, 256, "f"), api.ErrInodes)
}

// TestP12_9Space: devices with no block too many, filled in the ways that need most blocks.
func TestP12_9Space(t *testing.T) {
	for _, slots := range []int{2, 3, 5, 9, 20, 60} {
		for _, each := range []int{0, 1, 511, 512, 513, 4096, 4097, 4608, 4609, 9000} {
			for _, nested := range []bool{false, true} {
				t.Run("", func(t *testing.T) {
					t.Parallel()
					filled(t, slots, each, nested)
				})
			}
		}
	}
}

// filled gives each file that many bytes, all of them written; nested: every second inode is a directory in the one before.
func filled(t *testing.T, slots, each int, nested bool) {
	files := slots - 1
	if nested {
		files = slots / 2
	}
	if files*each > api.MaxQuota {
		return
	}
	g := groundOf(t, slots, files*each)
	in := 256
	for i := range slots - 1 {
		if nested && i%2 == 1 {
			in = g.must(op(api.Mkdir, in, "d")).Attr.Id
			continue
		}
		id := g.must(op(api.Create, in, fmt.Sprint("n", i))).Attr.Id
		for off := 0; off < each; off += 1024 {
			g.must(write(id, off, strings.Repeat("x", min(1024, each-off))))
		}
	}
	b, n, _ := tree.Usage(g.x, g.l)
	is(t, "bytes", b, files*each)
	is(t, "inodes", n, slots)
	used, _ := space.Used(g.x, g.l)
	is(t, "there are blocks for all", used <= g.l.DataLen, true)
}

// must does a request on the first device, in a transaction of its own of 14 blocks at most.
func (g *ground) must(r api.Request) api.Reply {
	g.t.Helper()
	p := g.asked(r)
	if p.Status != api.OK || len(g.x.Blocks()) > 14 {
		g.t.Fatalf("%+v: %d; the blocks %v", r, p.Status, g.x.Blocks())
	}
	is(g.t, "Commit", g.x.Commit(), api.OK)
	g.side.x = g.j.Begin()
	return p
}

// TestP12_9Blocks: RENAME between directories of every size near an edge, over great files and over directories, and all that may be done beside: 14 blocks at most.
func TestP12_9Blocks(t *testing.T) {
	for _, from := range []int{1, 2, 16, 17, 18, 128, 129, 130, 145} {
		for _, to := range []int{0, 1, 15, 16, 17, 33} {
			t.Run(fmt.Sprint(from, " ", to), func(t *testing.T) {
				t.Parallel()
				great(t, from, to)
			})
		}
	}
}

func great(t *testing.T, from, to int) {
	g := groundOf(t, 256, 200000)
	one, two := g.must(op(api.Mkdir, 256, "one")).Attr.Id, g.must(op(api.Mkdir, 256, "two")).Attr.Id
	for i := range from {
		g.must(op(api.Create+2*(i%2), one, fmt.Sprint("n", i)))
	}
	for i := range to {
		id := g.must(op(api.Create+2*(i%2), two, fmt.Sprint("n", i))).Attr.Id
		if i == 0 {
			g.must(write(id, 69630, "xy"))
			g.must(write(id, 0, strings.Repeat("x", 1024)))
		}
	}
	places := []int{0, 1, from / 2, from - 2, from - 1}
	for _, pair := range [][2]int{{one, two}, {two, one}, {one, one}, {two, two}} {
		for _, i := range places {
			for _, k := range append(places, 999) {
				r := move(pair[0], fmt.Sprint("n", i), pair[1], fmt.Sprint("n", k))
				if i < 0 || k < 0 {
					continue
				}
				g.writesFew(r)
			}
		}
	}
	for _, id := range []int{one, two} {
		for o := api.Create; o <= api.Rmdir; o++ {
			g.writesFew(op(o, id, "new"))
			g.writesFew(op(o, id, "n0"))
			g.writesFew(op(o, id, "n1"))
		}
	}
}

// writesFew drops what was done.
func (g *ground) writesFew(r api.Request) {
	g.t.Helper()
	g.asked(r)
	if list := g.x.Blocks(); len(list) > 14 {
		g.t.Errorf("%+v writes the blocks %v", r, list)
	}
	g.x.Drop()
	g.side.x = g.j.Begin()
}

// picture is all that P12.10 speaks of: entries, ids, kinds, sizes and contents.
func (g *ground) picture() string {
	g.t.Helper()
	text := ""
	all, code := inode.All(g.x, g.l)
	is(g.t, "All", code, api.OK)
	for _, x := range all {
		text += fmt.Sprintln(x.Id, x.Kind, x.Size)
		if x.Kind == api.File {
			row, code := file.Read(g.x, g.l, x, 0, x.Size)
			is(g.t, "Read", code, api.OK)
			text += fmt.Sprintf("%x\n", row)
			continue
		}
		list, code := dir.List(g.x, g.l, x)
		is(g.t, "List", code, api.OK)
		text += fmt.Sprintf("%#v\n", list)
	}
	return text
}

// TestP12_10ThereAndBack: on trees that stories have made, in each directory.
func TestP12_10ThereAndBack(t *testing.T) {
	for seed := range int64(40) {
		t.Run(fmt.Sprint(seed), func(t *testing.T) {
			t.Parallel()
			s := newStory(t, 2000+seed)
			for range 200 {
				s.step()
			}
			s.commitAll()
			s.alone = true
			was := s.picture()
			for _, id := range s.someDirs() {
				s.thereAndBack(id, was)
			}
		})
	}
}

// someDirs are directories that are there, a few of them by chance.
func (s *story) someDirs() []int {
	var ids []int
	for _, id := range slices.Sorted(maps.Keys(s.now.nodes)) {
		if s.now.nodes[id].kind == api.Dir {
			ids = append(ids, id)
		}
	}
	s.r.Shuffle(len(ids), func(i, j int) { ids[i], ids[j] = ids[j], ids[i] })
	return ids[:min(5, len(ids))]
}

func (s *story) thereAndBack(id int, was string) {
	s.t.Helper()
	if len(s.now.nodes) < len(s.now.uses) {
		s.pair(was, op(api.Create, id, "free"), op(api.Remove, id, "free"))
		s.pair(was, op(api.Mkdir, id, "free"), op(api.Rmdir, id, "free"))
	}
	list := s.now.nodes[id].names()
	s.r.Shuffle(len(list), func(i, j int) { list[i], list[j] = list[j], list[i] })
	for _, name := range list[:min(5, len(list))] {
		for _, to := range append(s.someDirs(), id) {
			if !s.now.nodes[id].entries[name].holds(s.now.nodes[to]) {
				s.pair(was, move(id, name, to, "free"), move(to, "free", id, name))
			}
		}
	}
}

func (s *story) pair(was string, there, back api.Request) {
	s.t.Helper()
	s.request(there)
	is(s.t, fmt.Sprintf("%+v changes the tree", there), s.picture() != was, true)
	s.request(back)
	if s.picture() != was {
		s.t.Fatalf("%+v and %+v do not leave the tree as it was", there, back)
	}
}

// TestP12_10WriteAndRead: what a WRITE wrote is read, and nothing else of any file has changed but zeros between the old size and Off.
func TestP12_10WriteAndRead(t *testing.T) {
	for _, size := range []int{0, 1, 511, 512, 513, 2000, 4095, 4096, 4097, 6000} {
		for _, off := range []int{0, 1, 500, 511, 512, 1500, 4000, 4095, 4096, 5000, 9000} {
			for _, n := range []int{1, 2, 511, 512, 513, 1024} {
				g := groundOf(t, 4, 30000)
				for _, name := range []string{"a", "b", "c"} {
					g.must(op(api.Create, 256, name))
				}
				rows := map[int][]byte{}
				for id := 257; id <= 259; id++ {
					rows[id] = g.grown(id, size)
				}
				data := noise(int64(n), n)
				g.must(api.Request{Op: api.Write, Id: 258, Off: off, Data: data})
				is(t, "READ", string(g.asked(read(258, off, n)).Data), string(data))
				row := append(rows[258], make([]byte, max(0, off+n-size))...)
				copy(row[off:], data)
				rows[258] = row
				for id, row := range rows {
					now, _ := file.Read(g.x, g.l, g.get(id), 0, 1<<20)
					is(t, fmt.Sprint("the contents of ", id, " with ", size, " bytes, behind a WRITE at ", off, " of ", n), string(now), string(row))
				}
			}
		}
	}
}

// grown fills a file.
func (g *ground) grown(id, size int) []byte {
	g.t.Helper()
	row := noise(int64(id), size)
	for off := 0; off < size; off += 1024 {
		g.must(api.Request{Op: api.Write, Id: id, Off: off, Data: row[off:min(size, off+1024)]})
	}
	return row
}
