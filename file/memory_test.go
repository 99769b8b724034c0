package file_test

import (
	"bytes"
	"slices"
	"testing"

	"annex/api"
	"annex/file"
)

// TestP10_5DataIsNotKept: it may be changed by its owner as soon as Write has answered; it is not changed by any call, its spare room neither.
func TestP10_5DataIsNotKept(t *testing.T) {
	for _, c := range []struct{ off, n int }{{0, 3}, {0, 512}, {0, 1024}, {100, 1024}, {4096, 512}, {3584, 1024}, {69120, 512}} {
		g := groundOf(t, 24)
		room := noise(int64(c.n), c.n+2000)
		was := slices.Clone(room)
		data := room[500 : 500+c.n]
		x, code := file.Write(g.x, g.l, first, c.off, data)
		is(t, "Write", code, api.OK)
		is(t, "what was handed in, and its room, is as it was", bytes.Equal(room, was), true)
		clear(room)
		want := was[500 : 500+c.n]
		got, _ := file.Read(g.x, g.l, x, c.off, c.n)
		is(t, "what was written is as it was", bytes.Equal(got, want), true)
		y, _ := file.Write(g.x, g.l, x, c.off, bytes.Repeat([]byte{7}, c.n))
		file.Cut(g.x, g.l, y, c.off)
		is(t, "what was read is as it was", bytes.Equal(got, want), true)
		is(t, "what was handed in stays alone", bytes.Equal(room, make([]byte, len(room))), true)
	}
}

// TestP10_5NewMemory: what a caller does with an answer is seen in no other one, and not on the ground; its spare room neither.
func TestP10_5NewMemory(t *testing.T) {
	g := groundOf(t, 24)
	x, data := g.filled(first, 5000)
	for _, c := range [][2]int{{0, 1}, {0, 3}, {0, 512}, {512, 512}, {0, 1024}, {100, 700}, {4096, 512}, {4000, 1000}, {0, 5000}} {
		want := data[c[0] : c[0]+c[1]]
		one, _ := file.Read(g.x, g.l, x, c[0], c[1])
		two, _ := file.Read(g.x, g.l, x, c[0], c[1])
		spoil := one[:cap(one)]
		for i := range spoil {
			spoil[i] = 0xee
		}
		_ = append(one, 1, 2, 3)
		is(t, "another answer", bytes.Equal(two, want), true)
		g.reads(x, c[0], c[1], string(want))
	}
	one, _ := file.Blocks(g.x, g.l, x)
	two, _ := file.Blocks(g.x, g.l, x)
	want := slices.Clone(two)
	spoil := one[:cap(one)]
	for i := range spoil {
		spoil[i] = -1
	}
	_ = append(one, 5, 6)
	is(t, "another list", slices.Equal(two, want), true)
	is(t, "a later list", slices.Equal(g.blocksOf(x), want), true)
	g.same("Read and Blocks")
}

// TestP10_5ReadsApart: two answers of nothing, and of holes, do not meet either.
func TestP10_5ReadsApart(t *testing.T) {
	g := groundOf(t, 24)
	holes := api.Inode{Id: 256, Kind: 1, Size: 2000}
	one, _ := file.Read(g.x, g.l, holes, 0, 600)
	two, _ := file.Read(g.x, g.l, holes, 0, 600)
	one = append(one[:cap(one)], 9)
	for i := range one {
		one[i] = 9
	}
	is(t, "the other one", bytes.Equal(two, make([]byte, 600)), true)
	g.reads(holes, 0, 600, string(make([]byte, 600)))
	none, _ := file.Read(g.x, g.l, holes, 2000, 600)
	more, _ := file.Read(g.x, g.l, holes, 2000, 600)
	none, more = append(none, 1), append(more, 2)
	is(t, "behind nothing", none[0], 1)
	is(t, "behind nothing", more[0], 2)
}
