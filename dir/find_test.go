package dir_test

import (
	"slices"
	"strings"
	"testing"

	"annex/api"
	"annex/dir"
)

// odd are names at the edges of what a name may be, some of them the beginning of others.
var odd = []string{"a", "A", "ab", "a b", "aa", "...", ".a", "a.", "..a", "\x01", "\x7f", "\x80", "\xff", "\xff\xff", "é", "e\u0301", "\n", " ", "0", strings.Repeat("a", 22), strings.Repeat("a", 23), strings.Repeat("\xff", 23), strings.Repeat("a", 22) + "b", "日本"}

// noNames are none.
var noNames = []string{"", ".", "..", "/", "a/", "/a", "a/b", "\x00", "a\x00", "\x00a", "a\x00b", strings.Repeat("a", 24), strings.Repeat("a", 255), strings.Repeat("a", 256+1), strings.Repeat("a", 4096), strings.Repeat("é", 12)}

func TestP11_1Find(t *testing.T) {
	g := groundOf(t, 24)
	x := first
	for i, name := range odd {
		for _, other := range odd[i:] {
			if _, code := g.find(x, other); code != api.ErrNoName {
				t.Errorf("Find(%q) = %d", other, code)
			}
		}
		x = g.added(x, name)
		for _, other := range odd[:i+1] {
			id, code := g.find(x, other)
			is(t, "Find", code, api.OK)
			is(t, "its id", id, idOf(other))
		}
	}
}

// TestP11_1Ids: the least and the greatest id, and each bit of it.
func TestP11_1Ids(t *testing.T) {
	g := groundOf(t, 24)
	ids := []int{1, 256, 1<<49 - 1, 1<<48 | 255, 0x0123456789abc}
	for i := range 49 {
		ids = append(ids, 1<<i)
	}
	for _, id := range ids {
		x, code := g.add(first, "n", id)
		is(t, "Add", code, api.OK)
		if got, code := dir.Find(g.x, g.l, x, "n"); got != id || code != api.OK {
			t.Errorf("the id %d: Find = %d, %d", id, got, code)
		}
		if list, code := dir.List(g.x, g.l, x); code != api.OK || !slices.Equal(list, []api.Entry{{Name: "n", Id: id}}) {
			t.Errorf("the id %d: List = %v, %d", id, list, code)
		}
		_, got, code := g.remove(x, "n")
		is(t, "Remove", code, api.OK)
		is(t, "the id that it had", got, id)
		g.drop()
	}
}

// TestP11_1SameId: two names may have one id.
func TestP11_1SameId(t *testing.T) {
	g := groundOf(t, 24)
	x, _ := g.add(first, "a", 9)
	x, _ = g.add(x, "b", 9)
	a, _ := g.find(x, "a")
	b, _ := g.find(x, "b")
	is(t, "ids", [2]int{a, b}, [2]int{9, 9})
	x, id, _ := g.remove(x, "a")
	is(t, "the id", id, 9)
	if id, code := g.find(x, "b"); id != 9 || code != api.OK {
		t.Errorf("Find(b) = %d, %d", id, code)
	}
}

func TestP11_1NoNames(t *testing.T) {
	g := groundOf(t, 24)
	x := g.added(first, odd...)
	for _, name := range noNames {
		_, one := g.find(x, name)
		_, two := g.add(x, name, 5)
		_, _, three := g.remove(x, name)
		if one != api.ErrName || two != api.ErrName || three != api.ErrName {
			t.Errorf("%q: Find %d, Add %d, Remove %d", name, one, two, three)
		}
	}
}

// TestP11_1Great: of the greatest directory each name is found, in whatever block it stands.
func TestP11_1Great(t *testing.T) {
	g := groundOf(t, 24)
	x, list := g.full(first, 256)
	for _, name := range list {
		if id, code := dir.Find(g.x, g.l, x, name); id != idOf(name) || code != api.OK {
			t.Errorf("Find(%q) = %d, %d", name, id, code)
		}
	}
	g.find(x, "not there")
	is(t, "blocks written", len(g.x.Blocks()), 0)
}

func TestP11_4Sorted(t *testing.T) {
	g := groundOf(t, 24)
	x := first
	for i := len(odd) - 1; i >= 0; i -= 2 {
		x = g.added(x, odd[i])
		g.list(x)
	}
	x = first
	want := []string{"\x01", "0", "A", "a", "a\x01", "aa", "ab", "b", "\x7f", "\x80", "é", "\xff", "\xff\x01", "\xff\xff"}
	for _, i := range []int{3, 9, 0, 13, 5, 11, 1, 7, 4, 12, 2, 8, 6, 10} {
		x = g.added(x, want[i])
	}
	got, code := g.list(x)
	is(t, "List", code, api.OK)
	is(t, "entries", len(got), len(want))
	for i, e := range got {
		is(t, "an entry", e, api.Entry{Name: want[i], Id: idOf(want[i])})
	}
}

func TestP11_4Many(t *testing.T) {
	for _, n := range []int{0, 1, 2, 15, 16, 17, 32, 127, 128, 129, 144, 145, 255, 256} {
		g := groundOf(t, 24)
		x, _ := g.full(first, n)
		list, code := g.list(x)
		is(t, "List", code, api.OK)
		is(t, "entries", len(list), n)
		is(t, "blocks written", len(g.x.Blocks()), 0)
	}
}

// TestP11_4OtherDirectories: each has its own.
func TestP11_4OtherDirectories(t *testing.T) {
	g := groundOf(t, 24)
	x, y := g.added(first, "a", "b"), g.added(second, "b", "c")
	x, y = g.added(x, "d"), g.removed(y, "b")
	g.holds(x, "a", "b", "d")
	g.holds(y, "c")
	g.list(x)
	g.list(y)
	g.find(x, "c")
	g.find(y, "a")
}
