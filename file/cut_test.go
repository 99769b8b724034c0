package file_test

import (
	"math"
	"slices"
	"testing"

	"annex/api"
	"annex/file"
	"annex/space"
)

// TestP10_3EveryPlace: contents of each size cut at each edge, and grown again: what was cut off does not come back.
func TestP10_3EveryPlace(t *testing.T) {
	for _, size := range []int{1, 511, 512, 513, 1024, 4095, 4096, 4097, 4608, 5000, 7000} {
		g := groundOf(t, 24)
		x, data := g.filled(first, size)
		for _, to := range append(edges, size, size-1, 5119, 5120, 5121) {
			if to > size {
				continue
			}
			mark, _ := g.x.Save()
			ahead := g.w.clone()
			y := g.cutTo(x, to)
			g.reads(y, 0, 69632, string(data[:to]))
			needs := (to + 511) / 512
			if to > 4096 {
				needs++
			}
			is(t, "blocks", len(g.blocksOf(y)), needs)
			z := g.wrote(y, 69631, "z")
			want := make([]byte, 69632)
			copy(want, data[:to])
			want[69631] = 'z'
			g.reads(z, 0, 69632, string(want))
			g.x.Back(mark)
			g.w = ahead
		}
	}
}

// TestP10_3GreatestContents: cut at each piece's end and around it.
func TestP10_3GreatestContents(t *testing.T) {
	g := groundOf(t, 140)
	x, data := g.filled(first, 69632)
	for p := 136; p >= 0; p-- {
		for _, to := range []int{p * 512, p*512 - 1, p*512 - 511} {
			if to < 0 {
				continue
			}
			x = g.cutTo(x, to)
			g.reads(x, max(0, to-600), 700, string(data[max(0, to-600):to]))
			g.commit()
		}
	}
	is(t, "cut to nothing", x, first)
	used, _ := space.Used(g.x, g.l)
	is(t, "blocks in use", used, 0)
}

// TestP10_3Holes: a piece without a block has none to lose, and none to be wiped.
func TestP10_3Holes(t *testing.T) {
	for _, to := range edges {
		g := groundOf(t, 24)
		x := g.wrote(first, 600, "a")
		x = g.wrote(x, 4095, "bb")
		x = g.wrote(x, 69120, "c")
		x = g.wrote(x, 69631, "d")
		g.commit()
		y := g.cutTo(x, to)
		many := len(g.blocksOf(y))
		g.commit()
		is(t, "cut to its size", g.cutTo(y, y.Size), y)
		is(t, "blocks", len(g.blocksOf(y)), many)
		used, _ := space.Used(g.x, g.l)
		is(t, "blocks in use", used, many)
	}
}

// TestP10_3BehindTheSize: blocks behind the size, as only a hand could give them: they go, too.
func TestP10_3BehindTheSize(t *testing.T) {
	g := groundOf(t, 24)
	d := g.l.Data
	g.use(d, d+1, d+2, d+3, d+4, d+5)
	g.layNumbers(d+5, map[int]int{8: d + 2, 77: d + 3, 135: d + 4})
	x := api.Inode{Id: 256, Kind: 1, Size: 3, Direct: [8]int{0: d, 6: d + 1}, Indirect: d + 5}
	want := api.Inode{Id: 256, Kind: 1, Size: 2, Direct: [8]int{0: d}}
	is(t, "cut to 2", g.cutTo(x, 2), want)
	used, _ := space.Used(g.x, g.l)
	is(t, "blocks in use", used, 1)

	g.use(d, d+1, d+2, d+3, d+4, d+5)
	x.Size = 69000
	y := g.cutTo(x, 77*512+1)
	want = x
	want.Size = 77*512 + 1
	is(t, "cut to the piece 77", y, want)
	g.numbersAre(y, map[int]int{8: d + 2, 77: d + 3})
}

func TestP10_3Arguments(t *testing.T) {
	g := groundOf(t, 24)
	x, _ := g.filled(first, 5000)
	for _, size := range []int{-1, -512, math.MinInt, 5001, 69632, 69633, math.MaxInt} {
		_, code := g.cut(x, size)
		is(t, "Cut", code, api.ErrArg)
		bent := x
		bent.Direct[3] = 1
		_, code = g.cut(bent, size)
		is(t, "Cut of a bent one", code, api.ErrArg)
		_, code = file.Cut(nil, g.l, x, size)
		is(t, "Cut without a transaction", code, api.ErrArg)
	}
	g.same("Cut")
}

// TestP10_3TheSameSize: the inode and the last piece are written all the same.
func TestP10_3TheSameSize(t *testing.T) {
	for _, size := range []int{0, 1, 512, 513, 4096, 4097, 5120} {
		g := groundOf(t, 24)
		x, data := g.filled(first, size)
		is(t, "cut to its size", g.cutTo(x, size), x)
		want := []int{g.l.Table}
		if size%512 > 0 {
			all := g.w.b[x.Indirect]
			last := append(x.Direct[:], int(all[3]))[min(8, size/512)]
			want = append(want, last)
		}
		if got := g.x.Blocks(); !slices.Equal(got, want) {
			t.Errorf("size %d: the blocks %v have been written, want %v", size, got, want)
		}
		g.reads(x, 0, 9999, string(data))
	}
}

// TestP10_3WhatIsWritten: neither the blocks of lost pieces nor an indirect block that is given back; one that stays only if it has changed.
func TestP10_3WhatIsWritten(t *testing.T) {
	g := groundOf(t, 24)
	d := g.l.Data
	x, _ := g.filled(first, 6*1024) // the pieces 0 to 7: d to d+7; the indirect block d+8; the pieces 8 to 11: d+9 to d+12
	is(t, "the indirect block", x.Indirect, d+8)
	for _, c := range []struct {
		to   int
		want []int
	}{
		{6144, []int{g.l.Table}},
		{6143, []int{g.l.Table, d + 12}},
		{5632, []int{g.l.Bits, g.l.Table, d + 8}},
		{5121, []int{g.l.Bits, g.l.Table, d + 8, d + 11}},
		{4097, []int{g.l.Bits, g.l.Table, d + 8, d + 9}},
		{4096, []int{g.l.Bits, g.l.Table}},
		{4095, []int{g.l.Bits, g.l.Table, d + 7}},
		{1, []int{g.l.Bits, g.l.Table, d}},
		{0, []int{g.l.Bits, g.l.Table}},
	} {
		g.cutTo(x, c.to)
		if got := g.x.Blocks(); !slices.Equal(got, c.want) {
			t.Errorf("Cut(%d): the blocks %v have been written, want %v", c.to, got, c.want)
		}
		g.x.Drop()
		g.w = &told{g.l, g.was(), nil}
		g.begin()
	}
}

// TestP10_3Errors: bent numbers and blocks that are not in use, in the order of the pieces; those that stay are not judged, but the last one.
func TestP10_3Errors(t *testing.T) {
	l := layoutOf(t, 24)
	d := l.Data
	full := api.Inode{Id: 256, Kind: 1, Size: 69632, Direct: [8]int{5: d, 6: d + 1}, Indirect: d + 2}
	for _, c := range []struct {
		what    string
		numbers map[int]int
		free    []int
		to      int
		want    api.Errno
	}{
		{"a bent number", map[int]int{9: 1}, nil, 0, api.ErrBent},
		{"a bent number at the end", map[int]int{135: d + 24}, nil, 69120, api.ErrBent},
		{"a bent number in what stays", map[int]int{9: 1}, nil, 10 * 512, api.OK},
		{"a bent number in what stays, ahead of the last piece", map[int]int{9: 1}, nil, 10*512 + 1, api.OK},
		{"a bent number of the last piece", map[int]int{9: 1}, nil, 9*512 + 1, api.ErrBent},
		{"a bent number of the very last piece", map[int]int{135: 1}, nil, 69631, api.ErrBent},
		{"nothing to lose behind a bent number", map[int]int{135: 1}, nil, 69632, api.OK},
		{"a direct one that is not in use, a bent number", map[int]int{9: 1}, []int{d + 1}, 0, api.ErrNotUsed},
		{"a direct one that is not in use, but stays", map[int]int{9: d + 3}, []int{d + 1}, 7 * 512, api.OK},
		{"a number that is not in use, then a bent one", map[int]int{9: d + 4, 10: 1}, []int{d + 4}, 4096, api.ErrNotUsed},
		{"a bent number, then one that is not in use", map[int]int{9: 1, 10: d + 4}, []int{d + 4}, 4096, api.ErrBent},
		{"one that is not in use, then a bent last one", map[int]int{9: 1, 10: d + 4}, []int{d + 4}, 9*512 + 5, api.ErrNotUsed},
		{"the indirect block is not in use", map[int]int{9: d + 4}, []int{d + 2}, 4096, api.ErrNotUsed},
		{"the indirect block is not in use, but stays", map[int]int{9: d + 4}, []int{d + 2}, 4097, api.OK},
		{"twice the same", map[int]int{9: d + 4, 11: d + 4}, nil, 4096, api.ErrNotUsed},
		{"twice the same, one stays", map[int]int{9: d + 4, 11: d + 4}, nil, 10 * 512, api.OK},
		{"a piece's block is the indirect block", map[int]int{9: d + 2}, nil, 4096, api.ErrNotUsed},
		{"a piece's block is the indirect block, that stays", map[int]int{9: d + 2}, nil, 4097, api.OK},
	} {
		g := groundOf(t, 24)
		for i := range 6 {
			if !slices.Contains(c.free, d+i) {
				g.use(d + i)
			}
		}
		g.layNumbers(d+2, c.numbers)
		if _, code := g.cut(full, c.to); code != c.want {
			t.Errorf("%s: Cut(%d) = %d, want %d", c.what, c.to, code, c.want)
		}
	}
}

// TestP10_3GivenBackFirst: the indirect block is given back ahead of the last piece's wiping: in a transaction that is full its error comes first.
func TestP10_3GivenBackFirst(t *testing.T) {
	g := groundOf(t, 60)
	d := g.l.Data
	x := api.Inode{Id: 256, Kind: 1, Size: 5000, Direct: [8]int{d}, Indirect: d + 1}
	g.use(d)
	g.layNumbers(d+1, nil)
	g.commit()
	g.fill(24)
	_, code := g.cut(x, 3)
	is(t, "an indirect block that is not in use", code, api.ErrNotUsed)
	x.Indirect = 0
	_, code = g.cut(x, 3)
	is(t, "no indirect block", code, api.ErrTxBig)
}

// TestP10_3ReadAhead: the last piece's block is the indirect block, too: its numbers are those that stood there ahead of the wiping.
func TestP10_3ReadAhead(t *testing.T) {
	g := groundOf(t, 24)
	d := g.l.Data
	g.use(d, d+1, d+2)
	x := api.Inode{Id: 256, Kind: 1, Size: 4608, Direct: [8]int{d}, Indirect: d}
	g.layNumbers(d, map[int]int{8: d + 1, 9: d + 2})
	y, code := g.cut(x, 9*512)
	is(t, "Cut to the piece 8", code, api.OK)
	g.numbersAre(y, map[int]int{8: d + 1})
	g.layNumbers(d, map[int]int{8: d, 9: d + 1})
	y, code = g.cut(x, 8*512+2)
	is(t, "Cut within the piece that is the indirect block", code, api.OK)
	g.numbersAre(y, map[int]int{8: d})
	g.use(d, d+1, d+2)
	g.layNumbers(d, map[int]int{8: d, 9: 0, 135: 0})
	y, code = g.cut(x, 8*512+4)
	is(t, "Cut that changes no number", code, api.OK)
	g.numbersAre(y, map[int]int{8: d})
}
