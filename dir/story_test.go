package dir_test

import (
	"bytes"
	"fmt"
	"maps"
	"math/rand"
	"slices"
	"testing"

	"annex/api"
	"annex/dir"
	"annex/file"
	"annex/inode"
	"annex/space"
)

// shelf is what directories hold, by their ids: the entries in the order of the contents.
type shelf map[int][]api.Entry

func (w shelf) clone() shelf {
	c := shelf{}
	for id, list := range w {
		c[id] = slices.Clone(list)
	}
	return c
}

func (w shelf) at(id int, name string) int {
	return slices.IndexFunc(w[id], func(e api.Entry) bool { return e.Name == name })
}

// remove puts the last entry in the place of one.
func (w shelf) remove(id, i int) {
	end := len(w[id]) - 1
	w[id][i] = w[id][end]
	w[id] = w[id][:end]
}

// story is a ground's first device with three directories, and what they must hold.
type story struct {
	*ground
	r     *rand.Rand
	ids   []int
	names []string
	grow  int           // of ten changes so many add
	stays shelf         // by the transactions that were committed
	now   shelf         // as the open transaction sees it
	saves map[int]shelf // by mark
}

// TestP11_6Stories: Add and Remove by chance, in several directories, over transactions that are committed, dropped, taken back and cut off by the power. They run side by side.
func TestP11_6Stories(t *testing.T) {
	for seed := range int64(100) {
		t.Run(fmt.Sprint(seed), func(t *testing.T) {
			t.Parallel()
			s := newStory(t, rand.New(rand.NewSource(seed)), seed)
			for range 400 {
				s.step()
				s.holdsSome()
			}
			s.holdsAll()
			s.end()
		})
	}
}

func newStory(t *testing.T, r *rand.Rand, seed int64) *story {
	s := &story{ground: groundOf(t, []int{16, 30, 60}[seed%3]), r: r, stays: shelf{}, grow: 5 + int(seed%5)}
	s.names = manyNames([]int{5, 40, 300}[seed/3%3])
	last, code := inode.New(s.x, s.l, api.Dir)
	is(t, "New", code, api.OK)
	s.ids = []int{first.Id, second.Id, last.Id}
	s.commitAll()
	if len(s.names) == 300 {
		for _, name := range s.names[:r.Intn(260)] {
			s.doAdd(first.Id, name)
		}
	}
	return s
}

func (s *story) anew() { s.now, s.saves = s.stays.clone(), map[int]shelf{} }

func (s *story) commitAll() {
	s.t.Helper()
	if code := s.x.Commit(); code != api.OK {
		s.t.Fatalf("Commit: %d", code)
	}
	s.side.x = s.j.Begin()
	if s.now != nil {
		s.stays = s.now
	}
	s.anew()
}

func (s *story) get(id int) api.Inode {
	s.t.Helper()
	x, code := inode.Get(s.x, s.l, id)
	if code != api.OK {
		s.t.Fatalf("Get(%d): %d", id, code)
	}
	return x
}

func (s *story) step() {
	s.t.Helper()
	switch s.r.Intn(40) {
	case 0:
		s.x.Drop()
		s.side.x = s.j.Begin()
		s.anew()
	case 1, 2, 3:
		s.commitAll()
	case 4, 5:
		mark, _ := s.x.Save()
		s.saves[mark] = s.now.clone()
	case 6:
		s.takeBack(1 + s.r.Intn(6))
	case 7:
		s.cutOff()
	default:
		id := s.ids[s.r.Intn(10)*s.r.Intn(10)%3]
		if s.r.Intn(10) < s.grow {
			s.doAdd(id, s.names[s.r.Intn(len(s.names))])
		} else {
			s.doRemove(id)
		}
	}
}

func (s *story) doAdd(id int, name string) {
	s.t.Helper()
	e := api.Entry{Name: name, Id: 1 + s.r.Intn(1<<49-1)}
	mark, _ := s.x.Save()
	x, code := dir.Add(s.x, s.l, s.get(id), name, e.Id)
	switch there := s.now.at(id, name) >= 0; {
	case there:
		is(s.t, "Add of one that is there", code, api.ErrTwice)
	case len(s.now[id]) == 256:
		is(s.t, "Add to a full one", code, api.ErrDirBent)
	default:
		s.after(mark, code, x, func() { s.now[id] = append(s.now[id], e) })
	}
}

// doRemove takes a name that is there, most times.
func (s *story) doRemove(id int) {
	s.t.Helper()
	name := s.names[s.r.Intn(len(s.names))]
	if many := len(s.now[id]); many > 0 && s.r.Intn(8) > 0 {
		name = s.now[id][s.r.Intn(many)].Name
	}
	mark, _ := s.x.Save()
	x, had, code := dir.Remove(s.x, s.l, s.get(id), name)
	i := s.now.at(id, name)
	if i < 0 {
		is(s.t, "Remove of one that is not there", code, api.ErrNoName)
		return
	}
	if code == api.OK {
		is(s.t, "the id that it had", had, s.now[id][i].Id)
	}
	s.after(mark, code, x, func() { s.now.remove(id, i) })
}

// after: a call that meets a full device or a full transaction is taken back.
func (s *story) after(mark int, code api.Errno, x api.Inode, tell func()) {
	s.t.Helper()
	switch code {
	case api.OK:
		tell()
		is(s.t, "the record is the answer", s.get(x.Id), x)
	case api.ErrSpace, api.ErrTxBig:
		is(s.t, "with an error", x, api.Inode{})
		if code := s.x.Back(mark); code != api.OK {
			s.t.Fatalf("Back: %d", code)
		}
	default:
		s.t.Fatalf("the call answers %d", code)
	}
}

func (s *story) takeBack(mark int) {
	s.t.Helper()
	was, ok := s.saves[mark]
	if !ok {
		return
	}
	if code := s.x.Back(mark); code != api.OK {
		s.t.Fatalf("Back(%d): %d", mark, code)
	}
	s.now = was.clone()
	maps.DeleteFunc(s.saves, func(m int, _ shelf) bool { return m > mark })
}

// cutOff lets the power fail while the transaction is committed, and a part of what pends survive: all of it is there, or nothing.
func (s *story) cutOff() {
	s.t.Helper()
	s.d.Arm(1 + s.r.Intn(12))
	code := s.x.Commit()
	if code != api.OK && code != api.ErrPower {
		s.t.Fatalf("Commit: %d", code)
	}
	keep := make([]bool, s.r.Intn(30))
	for i := range keep {
		keep[i] = s.r.Intn(2) == 0
	}
	s.d.Crash(keep)
	s.side.open(s.t, s.l)
	if code == api.OK || s.isThere(s.now) {
		s.stays = s.now
	}
	s.anew()
}

func (s *story) isThere(w shelf) bool {
	s.t.Helper()
	for _, id := range s.ids {
		if got, code := file.Read(s.x, s.l, s.get(id), 0, 9999); code != api.OK || !bytes.Equal(got, rowOf(w[id])) {
			return false
		}
	}
	return true
}

func rowOf(list []api.Entry) []byte {
	var b []byte
	for _, e := range list {
		b = append(b, bytesOf(e.Name, uint64(e.Id))...)
	}
	return b
}

// holdsSome asks for the contents, the sizes, the blocks, and some names.
func (s *story) holdsSome() {
	s.t.Helper()
	if !s.isThere(s.now) {
		s.t.Fatal("the contents are others")
	}
	all := 0
	for _, id := range s.ids {
		x, k := s.get(id), len(s.now[id])
		is(s.t, "Size", x.Size, 32*k)
		list, code := file.Blocks(s.x, s.l, x)
		is(s.t, "Blocks", code, api.OK)
		want := (k + 15) / 16
		if k > 128 {
			want++
		}
		is(s.t, fmt.Sprint("blocks of ", k, " names"), len(list), want)
		all += want
	}
	used, _ := space.Used(s.x, s.l)
	is(s.t, "blocks in use", used, all)
	s.finds(s.ids[s.r.Intn(3)], s.names[s.r.Intn(len(s.names))])
	s.lists(s.ids[s.r.Intn(3)])
	if s.t.Failed() {
		s.t.FailNow()
	}
}

func (s *story) finds(id int, name string) {
	s.t.Helper()
	want, code := 0, api.ErrNoName
	if i := s.now.at(id, name); i >= 0 {
		want, code = s.now[id][i].Id, api.OK
	}
	if got, e := dir.Find(s.x, s.l, s.get(id), name); got != want || e != code {
		s.t.Fatalf("Find(%q) = %d, %d, want %d, %d", name, got, e, want, code)
	}
}

func (s *story) lists(id int) {
	s.t.Helper()
	byName := map[string]api.Entry{}
	for _, e := range s.now[id] {
		byName[e.Name] = e
	}
	var want []api.Entry
	for _, name := range slices.Sorted(maps.Keys(byName)) {
		want = append(want, byName[name])
	}
	if got, code := dir.List(s.x, s.l, s.get(id)); code != api.OK || !slices.Equal(got, want) {
		s.t.Fatalf("List = %v, %d, want %v", got, code, want)
	}
}

func (s *story) holdsAll() {
	s.t.Helper()
	for _, id := range s.ids {
		s.lists(id)
		for _, name := range s.names {
			s.finds(id, name)
		}
	}
}

// end removes all: all blocks are given back.
func (s *story) end() {
	s.t.Helper()
	s.commitAll()
	for _, id := range s.ids {
		x := s.get(id)
		for _, e := range s.now[id] {
			y, had, code := dir.Remove(s.x, s.l, x, e.Name)
			is(s.t, "Remove", code, api.OK)
			is(s.t, "the id that it had", had, e.Id)
			x = y
		}
		is(s.t, "nothing is left", x, api.Inode{Id: id, Kind: api.Dir, Change: x.Change})
	}
	used, _ := space.Used(s.x, s.l)
	is(s.t, "blocks in use", used, 0)
}

// TestP11_6Blocks: for each number of names, there and back.
func TestP11_6Blocks(t *testing.T) {
	g := groundOf(t, 24)
	x := first
	check := func(k int) {
		t.Helper()
		want := (k + 15) / 16
		if k > 128 {
			want++
		}
		list, code := file.Blocks(g.x, g.l, x)
		if code != api.OK || len(list) != want || x.Size != 32*k {
			t.Fatalf("%d names: %d blocks, %d, want %d; Size %d", k, len(list), code, want, x.Size)
		}
	}
	for k, name := range manyNames(256) {
		check(k)
		y, code := dir.Add(g.x, g.l, x, name, idOf(name))
		is(t, "Add", code, api.OK)
		x = y
	}
	g.holds(x, manyNames(256)...)
	for k, name := range manyNames(256) {
		check(256 - k)
		y, _, code := dir.Remove(g.x, g.l, x, name)
		is(t, "Remove", code, api.OK)
		x = y
	}
	check(0)
	is(t, "as it began", x, first)
}

// TestP11_6Order: the entries stand as they were added, but for the places of those that went.
func TestP11_6Order(t *testing.T) {
	g := groundOf(t, 24)
	x := g.added(first, "d", "a", "c", "b", "e")
	g.holds(x, "d", "a", "c", "b", "e")
	x = g.removed(x, "a")
	g.holds(x, "d", "e", "c", "b")
	x = g.added(x, "a")
	g.holds(x, "d", "e", "c", "b", "a")
	x = g.removed(x, "a")
	g.holds(x, "d", "e", "c", "b")
	x = g.removed(x, "d")
	g.holds(x, "b", "e", "c")
	g.commit()
	g.holds(x, "b", "e", "c")
	g.removed(x, "b")
	g.drop()
	g.holds(x, "b", "e", "c")
	g.side.d.Crash(nil)
	g.w.d.Crash(nil)
	g.both(func(s *side) api.Errno { s.open(t, g.l); return api.OK })
	g.holds(x, "b", "e", "c")
	x = g.removed(x, "c", "b", "e")
	g.holds(x)
}
