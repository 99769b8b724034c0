package dir_test

import (
	"bytes"
	"fmt"
	"slices"
	"testing"

	"annex/api"
	"annex/dir"
	"annex/file"
	"annex/space"
)

// TestP11_3EachPlace: of directories of several sizes each place: the last one comes there, the others stay.
func TestP11_3EachPlace(t *testing.T) {
	for _, n := range []int{1, 2, 3, 16, 17, 18, 32, 33} {
		g := groundOf(t, 24)
		x, list := g.full(first, n)
		for i, name := range list {
			y := g.removed(x, name)
			want := slices.Clone(list)
			want[i] = want[n-1]
			g.holds(y, want[:n-1]...)
			if _, code := g.find(y, name); code != api.ErrNoName {
				t.Errorf("Find(%q) = %d", name, code)
			}
			g.drop()
		}
	}
}

func TestP11_3Great(t *testing.T) {
	for _, n := range []int{128, 129, 130, 144, 145, 256} {
		g := groundOf(t, 24)
		x, list := g.full(first, n)
		for _, i := range []int{0, 1, 15, 16, 100, 127, n - 17, n - 16, n - 2, n - 1} {
			y := g.removed(x, list[i])
			want := slices.Clone(list)
			want[i] = want[n-1]
			g.holds(y, want[:n-1]...)
			g.drop()
		}
	}
}

// TestP11_3Written: the block of the place, if it is not the last one; the block of the new end, where it is not given back; the numbers', where they change and stay; the bitmap's; the table's.
func TestP11_3Written(t *testing.T) {
	for _, c := range []struct {
		n, place int
		pieces   []int
		bits     bool
		numbers  bool
	}{
		{1, 0, nil, true, false}, {2, 0, []int{0}, false, false}, {2, 1, []int{0}, false, false},
		{16, 0, []int{0}, false, false}, {17, 0, []int{0}, true, false}, {17, 16, nil, true, false}, {18, 3, []int{0, 1}, false, false}, {18, 17, []int{1}, false, false},
		{33, 0, []int{0}, true, false}, {33, 20, []int{1}, true, false}, {33, 32, nil, true, false},
		{129, 0, []int{0}, true, false}, {129, 128, nil, true, false}, {130, 0, []int{0, 8}, false, false}, {130, 129, []int{8}, false, false},
		{145, 0, []int{0}, true, true}, {145, 130, []int{8}, true, true}, {145, 144, nil, true, true}, {256, 250, []int{15}, false, false},
	} {
		g := groundOf(t, 24)
		x, list := g.full(first, c.n)
		var want []int
		for _, p := range c.pieces {
			want = append(want, g.pieceOf(x, p))
		}
		want = append(want, g.l.Table)
		if c.bits {
			want = append(want, g.l.Bits)
		}
		if c.numbers {
			want = append(want, x.Indirect)
		}
		slices.Sort(want)
		g.removed(x, list[c.place])
		if got := g.x.Blocks(); !slices.Equal(got, want) {
			t.Errorf("Remove of the place %d of %d has written %v, want %v", c.place, c.n, got, want)
		}
	}
}

// TestP11_3ToNothing: all names, in three orders: all blocks are given back, and no bytes stay behind the end.
func TestP11_3ToNothing(t *testing.T) {
	for _, turn := range []func([]string){func([]string) {}, slices.Reverse[[]string], func(list []string) { slices.SortFunc(list, func(a, b string) int { return idOf(a) - idOf(b) }) }} {
		g := groundOf(t, 24)
		x, list := g.full(first, 150)
		turn(list)
		for i, name := range list {
			x = g.removed(x, name)
			if end := x.Size % 512; end > 0 {
				block, _ := g.x.Read(g.pieceOf(x, x.Size/512))
				is(t, "zeros behind the end", bytes.Equal(block[end:], make([]byte, 512-end)), true)
			}
			if i%9 == 0 {
				g.commit()
			}
		}
		is(t, "the inode", x, first)
		used, _ := space.Used(g.x, g.l)
		is(t, "blocks in use", used, 0)
	}
}

func TestP11_3NoName(t *testing.T) {
	g := groundOf(t, 24)
	x := g.added(first, "a", "b", "abc")
	for _, name := range []string{"c", "ab", "A", "abcd", "a\x01", "bc"} {
		y, id, code := g.remove(x, name)
		if code != api.ErrNoName || id != 0 || y != (api.Inode{}) {
			t.Errorf("Remove(%q) = %+v, %d, %d", name, y, id, code)
		}
	}
	x = g.removed(x, "a")
	_, _, code := g.remove(x, "a")
	is(t, "once more", code, api.ErrNoName)
	_, _, code = g.remove(second, "b")
	is(t, "of an empty one", code, api.ErrNoName)
	g.holds(x, "abc", "b")
}

// TestP11_3FromBelow: the errors of file.Write and file.Cut, whichever comes first; nothing stands beside them.
func TestP11_3FromBelow(t *testing.T) {
	g := groundOf(t, 24)
	x := g.added(first, manyNames(17)...)
	name := manyNames(17)
	check := func(what string, x api.Inode, name string, want api.Errno) {
		t.Helper()
		y, id, code := g.remove(x, name)
		if code != want || id != 0 || y != (api.Inode{}) {
			t.Errorf("%s: Remove(%q) = %+v, %d, %d, want %d", what, name, y, id, code, want)
		}
	}
	stale := x
	stale.Id += 256
	check("a stale id", stale, name[0], api.ErrStale)
	check("a stale id", stale, name[16], api.ErrStale)
	g.both(func(s *side) api.Errno { return space.Free(s.x, g.l, x.Direct[1]) })
	check("a block that is not in use", x, name[0], api.ErrNotUsed)
	check("a block that is not in use", x, name[16], api.ErrNotUsed)
	check("file.Write comes first", stale, name[0], api.ErrStale)
	check("file.Cut frees first", stale, name[16], api.ErrNotUsed)
	other := x
	other.Id, other.Kind = third.Id, 2
	check("an inode that is a file in the table", other, name[2], api.ErrArg)
}

// TestP11_3FullTransaction: with each number of blocks that the transaction has written already; need is how many the call writes.
func TestP11_3FullTransaction(t *testing.T) {
	for _, c := range []struct{ n, place, need int }{{1, 0, 2}, {2, 0, 2}, {17, 0, 3}, {17, 16, 2}, {18, 0, 3}, {18, 17, 2}, {145, 0, 4}, {145, 144, 3}} {
		for many := 18; many < 25; many++ {
			g := groundOf(t, 60)
			x, list := g.full(first, c.n)
			g.fill(many)
			_, _, code := g.remove(x, list[c.place])
			is(t, fmt.Sprint(many, " blocks are written: Remove of the place ", c.place, " of ", c.n), code, fits(many+c.need))
		}
	}
	for _, c := range []struct{ n, need int }{{0, 3}, {1, 2}, {16, 3}, {17, 2}, {128, 4}, {129, 2}, {144, 4}} {
		for many := 18; many < 25; many++ {
			g := groundOf(t, 60)
			x, list := g.full(first, c.n)
			g.fill(many)
			_, code := g.add(x, "one more", 5)
			is(t, fmt.Sprint(many, " blocks are written: Add to ", c.n), code, fits(many+c.need))
			g.find(x, append(list, "a")[0])
			g.list(x)
		}
	}
}

func fits(blocks int) api.Errno {
	if blocks > 24 {
		return api.ErrTxBig
	}
	return api.OK
}

// fill lets the transaction write blocks that no directory of this size comes to.
func (g *ground) fill(many int) {
	g.t.Helper()
	for k := range many {
		g.lay(g.l.Data+g.l.DataLen-1-k, make([]byte, 512))
	}
}

// TestP11_3OthersStay: a file's and another directory's blocks and records.
func TestP11_3OthersStay(t *testing.T) {
	g := groundOf(t, 40)
	data := noise(1, 1500)
	f := g.wrote(third, 0, data)
	y := g.added(second, "other", "names")
	x := first
	for i := range 40 {
		x = g.added(x, fmt.Sprint(i))
	}
	for i := range 40 {
		x = g.removed(x, fmt.Sprint((i*7)%40))
	}
	got, code := file.Read(g.x, g.l, f, 0, 9999)
	is(t, "the file is as it was", code == api.OK && bytes.Equal(got, data), true)
	g.holds(y, "other", "names")
	list, code := dir.List(g.x, g.l, x)
	is(t, "List", code, api.OK)
	is(t, "entries", len(list), 0)
}
