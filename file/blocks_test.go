package file_test

import (
	"slices"
	"testing"

	"annex/api"
	"annex/file"
)

// TestP10_4Rising: also those behind the size; twice, if a number stands there twice.
func TestP10_4Rising(t *testing.T) {
	g := groundOf(t, 24)
	d := g.l.Data
	g.layNumbers(d+4, map[int]int{8: d + 20, 9: d, 70: d + 5, 135: d + 1})
	for _, c := range []struct {
		x    api.Inode
		want []int
	}{
		{api.Inode{}, nil},
		{api.Inode{Size: 69632}, nil},
		{api.Inode{Direct: [8]int{d + 3, 0, d + 2}}, []int{d + 2, d + 3}},
		{api.Inode{Direct: [8]int{7: d + 23}}, []int{d + 23}},
		{api.Inode{Direct: [8]int{d + 3, d + 3, d + 3}, Size: 1}, []int{d + 3, d + 3, d + 3}},
		{api.Inode{Indirect: d + 4}, []int{d, d + 1, d + 4, d + 5, d + 20}},
		{api.Inode{Indirect: d + 4, Direct: [8]int{3: d + 4, 6: d + 20}, Size: 5000}, []int{d, d + 1, d + 4, d + 4, d + 5, d + 20, d + 20}},
	} {
		if list := g.blocksOf(c.x); !slices.Equal(list, c.want) {
			t.Errorf("Blocks(%+v) = %v, want %v", c.x, list, c.want)
		}
	}
	g.x.Drop()
	g.begin()
	g.blocks(first)
	if list := g.x.Blocks(); len(list) > 0 {
		t.Errorf("Blocks has written %v", list)
	}
}

func TestP10_4All(t *testing.T) {
	g := groundOf(t, 140)
	x, _ := g.filled(first, 69632)
	list := g.blocksOf(x)
	is(t, "blocks", len(list), 137)
	for i, b := range list {
		is(t, "a block", b, g.l.Data+i)
	}
	x.Size = 0
	is(t, "blocks behind the size", len(g.blocksOf(x)), 137)
}

// TestP10_4Bent: each number in the indirect block is judged, whatever the size.
func TestP10_4Bent(t *testing.T) {
	for p := 8; p < 136; p++ {
		g := groundOf(t, 24)
		d := g.l.Data
		for _, bad := range []int{1, d - 1, d + 24, 4096, 1<<32 - 1} {
			g.layNumbers(d, map[int]int{p: bad})
			for _, size := range []int{0, 4096, 69632} {
				if list, code := file.Blocks(g.x, g.l, api.Inode{Size: size, Indirect: d}); code != api.ErrBent || len(list) > 0 {
					t.Errorf("the piece %d has the number %d: Blocks = %v, %d", p, bad, list, code)
				}
			}
		}
		for _, good := range []int{d, d + 23} {
			g.layNumbers(d, map[int]int{p: good})
			g.blocksOf(api.Inode{Indirect: d})
		}
	}
}
