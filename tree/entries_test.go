package tree_test

import (
	"fmt"
	"slices"
	"strings"
	"testing"

	"annex/api"
	"annex/inode"
	"annex/space"
)

// TestP12_4Make: CREATE and MKDIR: a new inode, its entry, the directory stamped.
func TestP12_4Make(t *testing.T) {
	for o, kind := range map[int]int{api.Create: 1, api.Mkdir: 2} {
		g := small(t)
		for i, in := range []int{256, 258, 260} {
			was := g.get(in)
			seq := g.x.Seq()
			p := g.ok(op(o, in, "new"))
			id := []int{261, 517, 773}[i]
			is(t, "Attr", p.Attr, api.Attr{Id: id, Kind: kind, Change: seq})
			is(t, "the inode", g.get(id), api.Inode{Id: id, Kind: kind, Change: seq})
			is(t, "the directory's Size", g.get(in).Size, was.Size+32)
			is(t, "the directory's Change", g.get(in).Change, seq)
			is(t, "the entry", slices.Contains(g.ok(list(in, "", 16)).List, api.Entry{Name: "new", Id: id, Kind: kind}), true)
			g.status(op(o, in, "more"), api.ErrInodes)
			g.commit()
			g.ok(op(map[int]int{1: api.Remove, 2: api.Rmdir}[kind], in, "new"))
			g.commit()
		}
	}
}

// TestP12_4MakeOrder: of several Statuses that apply the first one is the answer.
func TestP12_4MakeOrder(t *testing.T) {
	for _, full := range []bool{false, true} {
		for _, o := range []int{api.Create, api.Mkdir} {
			g := small(t)
			if full {
				g.made(258, "last")
			}
			last := map[bool]api.Errno{true: api.ErrInodes}[full]
			g.status(op(o, 513, "f"), api.ErrStale)
			g.status(op(o, 200, "new"), api.ErrStale)
			g.status(op(o, 257, "f"), api.ErrNotDir)
			g.status(op(o, 259, "new"), api.ErrNotDir)
			for in, names := range map[int][]string{256: {"f", "d", "e"}, 258: {"g"}} {
				for _, name := range names {
					g.status(op(o, in, name), api.ErrExist)
				}
			}
			is(t, "blocks written", len(g.x.Blocks()), 0)
			g.status(op(o, 258, "f"), last)
			g.drop()
			g.status(op(o, 256, "g"), last)
			g.drop()
			g.status(op(o, 260, "f"), last)
			g.drop()
			g.status(op(o, 256, strings.Repeat("\xff", 23)), last)
		}
	}
}

// gone asks that an id is there no more, and how many blocks are in use.
func (g *ground) gone(id, blocks int) {
	g.t.Helper()
	_, code := inode.Get(g.x, g.l, id)
	is(g.t, fmt.Sprint("Get of ", id), code, api.ErrStale)
	g.status(getattr(id), api.ErrStale)
	used, _ := space.Used(g.x, g.l)
	is(g.t, "blocks in use", used, blocks)
}

// TestP12_4Remove: the entry goes, the directory is stamped, the file's blocks are given back.
func TestP12_4Remove(t *testing.T) {
	g := small(t)
	g.ok(write(259, 5000, "far"))
	g.commit()
	seq := g.x.Seq()
	is(t, "the reply", sameReply(g.ok(op(api.Remove, 258, "g")), api.Reply{Client: 3, Seq: 7, Op: api.Remove}), true)
	is(t, "the directory", g.get(258), api.Inode{Id: 258, Kind: 2, Change: seq})
	is(t, "the root's Change", g.get(256).Change, 5)
	g.gone(259, 2)
	g.status(look("/d/g"), api.ErrNoEnt)
	g.status(op(api.Remove, 258, "g"), api.ErrNoEnt)
	g.commit()
	g.ok(op(api.Remove, 256, "f"))
	g.gone(257, 1)
	is(t, "the root", attr(g.get(256)), api.Attr{Id: 256, Kind: 2, Size: 64, Change: seq + 1})
}

func TestP12_4RemoveOrder(t *testing.T) {
	g := small(t)
	for _, o := range []int{api.Remove, api.Rmdir} {
		for _, name := range []string{"f", "d", "e", "x"} {
			g.status(op(o, 513, name), api.ErrStale)
			g.status(op(o, 3, name), api.ErrStale)
			g.status(op(o, 257, name), api.ErrNotDir)
			g.status(op(o, 260, name), api.ErrNoEnt)
		}
		g.status(op(o, 256, "x"), api.ErrNoEnt)
		g.status(op(o, 256, "g"), api.ErrNoEnt)
	}
	g.status(op(api.Remove, 256, "d"), api.ErrIsDir)
	g.status(op(api.Remove, 256, "e"), api.ErrIsDir)
	g.status(op(api.Rmdir, 256, "f"), api.ErrNotDir)
	g.status(op(api.Rmdir, 258, "g"), api.ErrNotDir)
	g.status(op(api.Rmdir, 256, "d"), api.ErrNotEmpty)
	is(t, "blocks written", len(g.x.Blocks()), 0)
}

// TestP12_4Rmdir: an empty directory goes, also one that was not empty.
func TestP12_4Rmdir(t *testing.T) {
	g := small(t)
	seq := g.x.Seq()
	is(t, "the reply", sameReply(g.ok(op(api.Rmdir, 256, "e")), api.Reply{Client: 3, Seq: 7, Op: api.Rmdir}), true)
	g.gone(260, 3)
	is(t, "the root", attr(g.get(256)), api.Attr{Id: 256, Kind: 2, Size: 64, Change: seq})
	g.commit()
	g.status(op(api.Rmdir, 256, "d"), api.ErrNotEmpty)
	g.ok(op(api.Remove, 258, "g"))
	g.ok(op(api.Rmdir, 256, "d"))
	g.gone(258, 2)
	g.status(look("/d"), api.ErrNoEnt)
	g.status(op(api.Create, 258, "x"), api.ErrStale)
}

// TestP12_4Readdir: by names as bytes, behind a name that need not be there, Len of them, and whether there are more.
func TestP12_4Readdir(t *testing.T) {
	g := groundOf(t, 40, 0)
	names := []string{"\x01", " ", "...", "A", "a", "aa", "aa.", "b", "b.", "z", "\x7f", "\x80.", "\xff", "\xff\xff", strings.Repeat("n", 22) + ".", strings.Repeat("m", 23), "0", "00", "7", "77"}
	g.made(256, names...)
	slices.Sort(names)
	for _, behind := range append(names, "", "aZ", "c", "\xfe", strings.Repeat("\xff", 23), "!") {
		for n := 1; n <= 16; n++ {
			p := g.ok(list(256, behind, n))
			i, found := slices.BinarySearch(names, behind)
			if found {
				i++
			}
			want := names[i:min(len(names), i+n)]
			is(t, fmt.Sprintf("More behind %q", behind), p.More, i+n < len(names))
			is(t, fmt.Sprintf("entries behind %q", behind), len(p.List), len(want))
			for k, e := range p.List {
				a := g.ok(look("/" + want[k])).Attr
				kind := 1 + strings.Count(want[k][len(want[k])-1:], ".")
				is(t, "an entry", e, api.Entry{Name: want[k], Id: a.Id, Kind: kind})
			}
		}
	}
	g.status(list(999, "", 1), api.ErrStale)
	g.status(list(256+1, "", 1), api.ErrNotDir)
	is(t, "blocks written", len(g.x.Blocks()), 0)
}

func TestP12_4ReaddirEmpty(t *testing.T) {
	g := small(t)
	for _, r := range []api.Request{list(260, "", 1), list(260, "a", 16), list(258, "g", 16), list(256, "\xff", 1)} {
		is(t, "the reply", sameReply(g.ok(r), api.Reply{Client: 3, Seq: 7, Op: api.Readdir}), true)
	}
	p := g.ok(list(256, "", 3))
	is(t, "entries", len(p.List), 3)
	is(t, "More", p.More, false)
	is(t, "More", g.ok(list(256, "", 2)).More, true)
}
