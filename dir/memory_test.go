package dir_test

import (
	"slices"
	"testing"
	"unsafe"

	"annex/api"
	"annex/dir"
)

// changeable is a text over bytes that a test can change: what holds on to the text shows the change.
func changeable(s string) ([]byte, string) {
	b := []byte(s)
	return b, unsafe.String(unsafe.SliceData(b), len(b))
}

// TestP11_5NamesAreNotKept: a text that was handed in shows nowhere what its owner does with it.
func TestP11_5NamesAreNotKept(t *testing.T) {
	g := groundOf(t, 16)
	b, name := changeable("name")
	x, code := dir.Add(g.x, g.l, first, name, 5)
	is(t, "Add", code, api.OK)
	is(t, "what was handed in", string(b), "name")
	list, _ := dir.List(g.x, g.l, x)
	clear(b)
	is(t, "the entry", list[0], api.Entry{Name: "name", Id: 5})
	id, _ := dir.Find(g.x, g.l, x, "name")
	is(t, "Find", id, 5)
	c, again := changeable("name")
	dir.Find(g.x, g.l, x, again)
	y, _, code := dir.Remove(g.x, g.l, x, again)
	is(t, "Remove", code, api.OK)
	is(t, "what was handed in", string(c), "name")
	is(t, "Size", y.Size, 0)
}

// TestP11_5NewMemory: what a caller does with a list is seen in no other one, and not in the directory; its spare room neither.
func TestP11_5NewMemory(t *testing.T) {
	for _, n := range []int{0, 1, 2, 3, 5, 16, 17, 33, 150, 256} {
		g := groundOf(t, 24)
		x, _ := g.full(first, n)
		one, _ := dir.List(g.x, g.l, x)
		two, _ := dir.List(g.x, g.l, x)
		want := slices.Clone(one)
		spoil := one[:cap(one)]
		for i := range spoil {
			spoil[i] = api.Entry{Name: "spoilt", Id: -1, Kind: 9}
		}
		_ = append(one, api.Entry{Name: "more"})
		is(t, "another list", slices.Equal(two, want), true)
		is(t, "its spare room", slices.ContainsFunc(two[:cap(two)], func(e api.Entry) bool { return e.Name == "spoilt" || e.Name == "more" }), false)
		three, _ := g.list(x)
		is(t, "a later list", slices.Equal(three, want), true)
	}
}

// TestP11_5NamesApart: no entry of a list shares its name's bytes with another one.
func TestP11_5NamesApart(t *testing.T) {
	g := groundOf(t, 24)
	x, _ := g.full(first, 40)
	one, _ := dir.List(g.x, g.l, x)
	two, _ := dir.List(g.x, g.l, x)
	where := map[*byte]string{}
	for _, e := range append(one, two...) {
		p := unsafe.StringData(e.Name)
		if other, ok := where[p]; ok && len(e.Name) > 1 {
			t.Errorf("%q and %q share their bytes", e.Name, other)
		}
		where[p] = e.Name
	}
}

// TestP11_5NothingWritten: Find and List, with and without an answer.
func TestP11_5NothingWritten(t *testing.T) {
	for _, n := range []int{0, 1, 16, 17, 129, 256} {
		g := groundOf(t, 24)
		x, list := g.full(first, n)
		for _, name := range append(list[:min(3, n)], "not there", "", "a/b") {
			g.find(x, name)
			g.list(x)
		}
		bent := x
		bent.Size += 31
		g.find(bent, "a")
		g.list(bent)
		is(t, "blocks written", len(g.x.Blocks()), 0)
		seq, _, _ := g.j.State()
		is(t, "Commit", g.x.Commit(), api.OK)
		now, _, _ := g.j.State()
		is(t, "the seq is not used", now, seq)
	}
}

// TestP11_5SideBySide: two directories on two devices do not hear of each other.
func TestP11_5SideBySide(t *testing.T) {
	for i := range 4 {
		t.Run("", func(t *testing.T) {
			t.Parallel()
			g := groundOf(t, 24)
			x := first
			for j, name := range manyNames(60) {
				x = g.added(x, name)
				if (i+j)%5 == 0 {
					x = g.removed(x, name)
				}
			}
			g.list(x)
		})
	}
}
