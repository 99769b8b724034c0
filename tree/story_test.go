package tree_test

import (
	"bytes"
	"fmt"
	"maps"
	"math/rand"
	"slices"
	"strings"
	"testing"

	"annex/api"
	"annex/dir"
	"annex/file"
	"annex/inode"
	"annex/space"
	"annex/tree"
)

// story is a tree on a device, and what it must be.
type story struct {
	*ground
	r     *rand.Rand
	alone bool           // each operation has a transaction of its own
	ids   []int          // that were given out
	names []string       // that are used
	stays *model         // by the transactions that were committed
	now   *model         // as the open transaction sees it
	saves map[int]*model // by mark
}

// TestP12_8Stories: requests by chance, over transactions that are committed, dropped, taken back and cut off by the power. All answers are those of a tree in memory.
func TestP12_8Stories(t *testing.T) {
	for seed := range int64(160) {
		t.Run(fmt.Sprint(seed), func(t *testing.T) {
			t.Parallel()
			s := newStory(t, seed)
			for i := range 500 {
				s.step()
				if i%10 == 0 {
					s.sound()
				}
			}
			s.sound()
			s.whole()
			s.end()
		})
	}
}

func newStory(t *testing.T, seed int64) *story {
	slots := []int{2, 3, 5, 9, 17, 40, 256, 30}[seed%8]
	quota := []int{0, 1, 600, 5000, 20000, 80000, 250000}[seed%7]
	s := &story{ground: groundOf(t, slots, quota), r: rand.New(rand.NewSource(seed)), alone: seed/2%2 == 0}
	s.stays, s.ids = newModel(slots, quota), []int{256}
	s.names = []string{"a", "b", "c", "\xff", "d e", strings.Repeat("n", 23), "A", "..."}[:3+seed%6]
	s.anew()
	if slots == 256 {
		s.crowd()
	}
	return s
}

// crowd lets a directory have about as many entries as need an indirect block.
func (s *story) crowd() {
	s.t.Helper()
	for i := range 400 {
		s.names = append(s.names, fmt.Sprint("n", i))
	}
	in := 256
	if s.r.Intn(2) == 0 {
		s.request(op(api.Mkdir, in, "a"))
		s.commitAll()
		in = s.ids[1]
	}
	for i := range 120 + s.r.Intn(14) {
		s.request(op(api.Create+2*s.r.Intn(2), in, s.names[10+i]))
		s.commitAll()
	}
}

func (s *story) anew() { s.now, s.saves = s.stays.clone(), map[int]*model{} }

func (s *story) commitAll() {
	s.t.Helper()
	if code := s.x.Commit(); code != api.OK {
		s.t.Fatalf("Commit: %d", code)
	}
	s.side.x = s.j.Begin()
	s.stays = s.now
	s.anew()
}

func (s *story) dropAll() {
	s.x.Drop()
	s.side.x = s.j.Begin()
	s.anew()
}

func (s *story) step() {
	s.t.Helper()
	switch n := s.r.Intn(50); {
	case n == 0:
		s.cutOff()
	case n == 1:
		s.dropAll()
	case n < 5 && !s.alone:
		mark, _ := s.x.Save()
		s.saves[mark] = s.now.clone()
	case n < 7 && !s.alone:
		s.takeBack(1 + s.r.Intn(12))
	case n < 12:
		s.commitAll()
	default:
		s.request(s.chance())
	}
}

// request asks both trees. A transaction that is full is dropped.
func (s *story) request(r api.Request) {
	s.t.Helper()
	if s.alone {
		s.commitAll()
	}
	r.Client, r.Seq, r.Ack, r.Epoch = s.r.Intn(8), 1+s.r.Intn(9), 0, s.r.Intn(3)
	was := s.x.Blocks()
	p, code := tree.Do(s.x, s.l, r)
	if code == api.ErrTxBig && !s.alone {
		s.dropAll()
		return
	}
	want := s.now.do(r, s.x.Seq())
	if code != api.OK || !sameReply(p, want) {
		s.t.Fatalf("%+v: %+v, %d, want %+v", r, p, code, want)
	}
	if p.Attr.Id != 0 && (r.Op == api.Create || r.Op == api.Mkdir) {
		s.ids = append(s.ids, p.Attr.Id)
	}
	if p.Status != api.OK && !slices.Equal(s.x.Blocks(), was) {
		s.t.Fatalf("%+v: the Status %d, and the blocks %v have been written (%v ahead of it)", r, p.Status, s.x.Blocks(), was)
	}
	if s.alone && len(s.x.Blocks()) > 14 {
		s.t.Fatalf("%+v writes the blocks %v", r, s.x.Blocks())
	}
}

func (s *story) name() string { return s.names[s.r.Intn(len(s.names))] }

// within is a directory, and a name that is there, many times.
func (s *story) within() (int, string) {
	id := s.id(api.Dir)
	if n := s.now.nodes[id]; n != nil && len(n.entries) > 0 && s.r.Intn(3) > 0 {
		list := n.names()
		return id, list[s.r.Intn(len(list))]
	}
	return id, s.name()
}

func (s *story) removal(o int) api.Request {
	id, name := s.within()
	return op(o, id, name)
}

// id is one that is there, most times; of that kind, many times.
func (s *story) id(kind int) int {
	if s.r.Intn(10) == 0 {
		return []int{s.ids[s.r.Intn(len(s.ids))], 1 + s.r.Intn(255), 1<<49 - 1, 256 + s.r.Intn(700)}[s.r.Intn(4)]
	}
	var all, those []int
	for _, id := range slices.Sorted(maps.Keys(s.now.nodes)) {
		all = append(all, id)
		if s.now.nodes[id].kind == kind {
			those = append(those, id)
		}
	}
	if len(those) > 0 && s.r.Intn(6) > 0 {
		return those[s.r.Intn(len(those))]
	}
	return all[s.r.Intn(len(all))]
}

func (s *story) off() int {
	return []int{s.r.Intn(69633), s.r.Intn(600), s.r.Intn(5000), 512 * s.r.Intn(12), 4096, 69632 - s.r.Intn(1100), 0}[s.r.Intn(7)]
}

// path leads somewhere, many times.
func (s *story) path() string {
	path := ""
	n := s.now.nodes[256]
	for range s.r.Intn(6) {
		name := s.name()
		if list := n.names(); len(list) > 0 && s.r.Intn(5) > 0 {
			name = list[s.r.Intn(len(list))]
		}
		path += "/" + name
		if n = n.entries[name]; n == nil {
			break
		}
	}
	if path == "" {
		return "/"
	}
	return path
}

func (s *story) chance() api.Request {
	switch n := s.r.Intn(20); n {
	case 0:
		return look(s.path())
	case 1:
		return getattr(s.id(1 + s.r.Intn(2)))
	case 2, 3:
		return read(s.id(1), s.off(), 1+s.r.Intn(1024))
	case 4, 5, 6:
		return write(s.id(1), s.off(), string(noise(s.r.Int63(), 1+s.r.Intn(1024)>>s.r.Intn(11))))
	case 7, 8, 9:
		return op(api.Create, s.id(2), s.name())
	case 10, 11:
		return op(api.Mkdir, s.id(2), s.name())
	case 12, 13:
		return s.removal(api.Remove)
	case 14, 15:
		return s.removal(api.Rmdir)
	case 16:
		return list(s.id(2), append(s.names, "", "b\x01", "~")[s.r.Intn(len(s.names)+3)], 1+s.r.Intn(16)>>s.r.Intn(4))
	}
	id, name := s.within()
	id2, name2 := s.within()
	if s.r.Intn(3) == 0 {
		name2 = s.name()
	}
	return move(id, name, id2, name2)
}

func (s *story) takeBack(mark int) {
	s.t.Helper()
	was, ok := s.saves[mark]
	if !ok {
		return
	}
	if code := s.x.Back(mark); code != api.OK {
		s.t.Fatalf("Back(%d): %d", mark, code)
	}
	s.now = was.clone()
	maps.DeleteFunc(s.saves, func(m int, _ *model) bool { return m > mark })
}

// cutOff lets the power fail while the transaction is committed, and a part of what pends survive: all of it is there, or nothing.
func (s *story) cutOff() {
	s.t.Helper()
	seq := s.x.Seq()
	s.d.Arm(1 + s.r.Intn(20))
	code := s.x.Commit()
	if code != api.OK && code != api.ErrPower {
		s.t.Fatalf("Commit: %d", code)
	}
	keep := make([]bool, s.r.Intn(40))
	for i := range keep {
		keep[i] = s.r.Intn(3) > 0
	}
	s.d.Crash(keep)
	s.side.open(s.t, s.l)
	if s.x.Seq() > seq {
		s.stays = s.now
	}
	s.anew()
	s.sound()
	s.whole()
}

// sound asks the layers below: the directories make one tree, each other inode in use has one entry, no block is used twice, none is lost.
func (s *story) sound() {
	s.t.Helper()
	all, code := inode.All(s.x, s.l)
	is(s.t, "All", code, api.OK)
	entries, bytes := map[int]int{}, 0
	var blocks []int
	for _, x := range all {
		own, code := file.Blocks(s.x, s.l, x)
		is(s.t, "Blocks", code, api.OK)
		blocks = append(blocks, own...)
		if x.Kind == api.File {
			bytes += x.Size
			continue
		}
		list, code := dir.List(s.x, s.l, x)
		is(s.t, "List", code, api.OK)
		for _, e := range list {
			entries[e.Id]++
		}
	}
	is(s.t, "the root's entries", entries[256], 0)
	for _, x := range all[1:] {
		is(s.t, fmt.Sprint("the entries of ", x.Id), entries[x.Id], 1)
	}
	is(s.t, "ids that have an entry", len(entries), len(all)-1)
	is(s.t, "inodes below the root", s.below(256), len(all))
	s.blocks(blocks)
	b, n, code := tree.Usage(s.x, s.l)
	if b != bytes || b != s.now.bytes() || b > s.l.Shape.Quota || n != len(all) || n != len(s.now.nodes) || code != api.OK {
		s.t.Fatalf("Usage = %d, %d, %d, want %d, %d", b, n, code, s.now.bytes(), len(s.now.nodes))
	}
	if s.t.Failed() {
		s.t.FailNow()
	}
}

func (s *story) blocks(list []int) {
	s.t.Helper()
	slices.Sort(list)
	is(s.t, "blocks, each once", len(slices.Compact(slices.Clone(list))), len(list))
	for _, b := range list {
		used, _ := space.Has(s.x, s.l, b)
		is(s.t, "a block is in use", used, true)
	}
	used, _ := space.Used(s.x, s.l)
	is(s.t, "blocks in use", used, len(list))
}

// below counts an inode and all below it.
func (s *story) below(id int) int {
	x := s.get(id)
	if x.Kind == api.File {
		return 1
	}
	many := 1
	list, _ := dir.List(s.x, s.l, x)
	for _, e := range list {
		many += s.below(e.Id)
	}
	return many
}

// whole asks for everything that the tree holds.
func (s *story) whole() {
	s.t.Helper()
	for _, id := range slices.Sorted(maps.Keys(s.now.nodes)) {
		n := s.now.nodes[id]
		s.request(getattr(id))
		if n.kind == api.Dir {
			s.pages(n)
			continue
		}
		x := s.get(id)
		row, code := file.Read(s.x, s.l, x, 0, x.Size)
		if code != api.OK || !bytes.Equal(row, n.data) {
			s.t.Fatalf("the contents of %d are others (%d)", id, code)
		}
		for off := 0; off < len(n.data); off += 1024 {
			s.request(read(id, off, 1024))
		}
	}
}

// pages reads a directory to its end.
func (s *story) pages(n *node) {
	s.t.Helper()
	behind, many := "", 0
	for more := true; more; {
		p, code := tree.Do(s.x, s.l, api.Request{Seq: 1, Op: api.Readdir, Id: n.id, Name: behind, Len: 1 + s.r.Intn(16)})
		if code != api.OK || p.Status != api.OK || p.More && len(p.List) == 0 {
			s.t.Fatalf("READDIR %d %q: %+v, %d", n.id, behind, p, code)
		}
		for _, e := range p.List {
			k := n.entries[e.Name]
			if k == nil || k.id != e.Id || k.kind != e.Kind || e.Name <= behind {
				s.t.Fatalf("READDIR %d %q tells %+v", n.id, behind, e)
			}
			behind = e.Name
			many++
		}
		more = p.More
	}
	is(s.t, "entries", many, len(n.entries))
}

// end removes all: all blocks are given back.
func (s *story) end() {
	s.t.Helper()
	s.commitAll()
	s.alone = true
	s.clear(256)
	s.commitAll()
	s.sound()
	used, _ := space.Used(s.x, s.l)
	is(s.t, "blocks in use", used, 0)
	is(s.t, "the root", s.get(256), api.Inode{Id: 256, Kind: 2, Change: s.now.nodes[256].change})
}

func (s *story) clear(id int) {
	s.t.Helper()
	for name, k := range s.now.clone().nodes[id].entries {
		if k.kind == api.File {
			s.request(op(api.Remove, id, name))
			continue
		}
		s.clear(k.id)
		s.request(op(api.Rmdir, id, name))
	}
}
