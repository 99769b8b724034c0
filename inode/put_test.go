package inode_test

import (
	"bytes"
	"math"
	"testing"

	"annex/api"
)

// TestP9_3Numbers: each number's edges, on its own.
func TestP9_3Numbers(t *testing.T) {
	g := groundOf(t, 6)
	g.new(1, api.Inode{Id: 256, Kind: 1, Change: 1}, api.OK)
	g.new(2, api.Inode{Id: 257, Kind: 2, Change: 1}, api.OK)
	for id := 256; id <= 257; id++ {
		for _, size := range []int{0, 1, 511, 512, 65535, 65536, api.MaxSize - 1, api.MaxSize} {
			judged(g, id, func(x *api.Inode) { x.Size = size }, api.OK)
		}
		for _, size := range []int{math.MinInt, -1 << 32, -1, api.MaxSize + 1, 1 << 32, 1<<32 + 1, math.MaxInt} {
			judged(g, id, func(x *api.Inode) { x.Size = size }, api.ErrArg)
		}
		for _, change := range []int{0, 1, 1<<32 - 1, 1 << 32, 1 << 61, api.MaxNumber - 1, api.MaxNumber} {
			judged(g, id, func(x *api.Inode) { x.Change = change }, api.OK)
		}
		for _, change := range []int{math.MinInt, -api.MaxNumber, -1, api.MaxNumber + 1, math.MaxInt} {
			judged(g, id, func(x *api.Inode) { x.Change = change }, api.ErrArg)
		}
		for _, kind := range notKinds {
			judged(g, id, func(x *api.Inode) { x.Kind = kind }, api.ErrArg)
		}
		judged(g, id, func(x *api.Inode) { x.Kind = 3 - x.Kind }, api.ErrArg)
	}
}

// judged puts a sample that was changed: it is the record from then on, or with an error nothing happens.
func judged(g *ground, id int, change func(x *api.Inode), want api.Errno) {
	g.t.Helper()
	was, table := sample(g.l, id, id-255), g.table()
	g.put(was, api.OK)
	x := was
	change(&x)
	before := g.table()
	g.put(x, want)
	if want != api.OK {
		if !bytes.Equal(g.table(), before) {
			g.t.Fatalf("Put(%+v) = %d has changed the table", x, want)
		}
		x = was
	}
	g.get(id, x, api.OK)
	s := id % 256
	after := bytes.Clone(table)
	copy(after[128*s:], place{id / 256, true, x}.record())
	if !bytes.Equal(g.table(), after) {
		g.t.Fatalf("behind Put(%+v) the table is another one", x)
	}
}

// TestP9_3BlockNumbers: each of the nine, at the edges of the data blocks.
func TestP9_3BlockNumbers(t *testing.T) {
	g := groundOf(t, 6)
	g.new(1, api.Inode{Id: 256, Kind: 1, Change: 1}, api.OK)
	first, last := g.l.Data, g.l.Data+g.l.DataLen-1
	for i := range 9 {
		number := func(x *api.Inode) *int { return append(pointers(x), &x.Indirect)[i] }
		for _, b := range []int{0, first, first + 1, last - 1, last} {
			judged(g, 256, func(x *api.Inode) { *number(x) = b }, api.OK)
		}
		for _, b := range []int{
			math.MinInt, -1 << 32, -first, -1, 1, g.l.Journal, g.l.Bits, g.l.Table, first - 1,
			last + 1, last + 2, 4096, 1 << 32, 1<<32 + first, math.MaxInt,
		} {
			judged(g, 256, func(x *api.Inode) { *number(x) = b }, api.ErrArg)
		}
	}
}

func pointers(x *api.Inode) []*int {
	var list []*int
	for i := range x.Direct {
		list = append(list, &x.Direct[i])
	}
	return list
}

// TestP9_3SameBlockTwice: whose a block is, is the caller's business.
func TestP9_3SameBlockTwice(t *testing.T) {
	g := groundOf(t, 4)
	g.new(1, api.Inode{Id: 256, Kind: 1, Change: 1}, api.OK)
	g.new(1, api.Inode{Id: 257, Kind: 1, Change: 1}, api.OK)
	for id := 256; id <= 257; id++ {
		x := api.Inode{Id: id, Kind: 1, Indirect: g.l.Data}
		for i := range x.Direct {
			x.Direct[i] = g.l.Data
		}
		g.put(x, api.OK)
		g.get(id, x, api.OK)
	}
}

// TestP9_3Stale: Get's errors, behind those of x's numbers and ahead of the other kind's.
func TestP9_3Stale(t *testing.T) {
	g := groundOf(t, 6)
	g.new(1, api.Inode{Id: 256, Kind: 1, Change: 1}, api.OK)
	g.new(2, api.Inode{Id: 257, Kind: 2, Change: 1}, api.OK)
	g.free(257, api.OK)
	g.commit()
	for _, id := range append([]int{257, 258, 261, 262, 511, 512, 513}, strangeIds...) {
		for kind := 1; kind <= 2; kind++ {
			g.put(sample(g.l, id, kind), api.ErrStale)
		}
		g.put(api.Inode{Id: id, Kind: 3}, api.ErrArg)
		g.put(api.Inode{Id: id, Kind: 1, Size: -1}, api.ErrArg)
		g.put(api.Inode{Id: id, Kind: 1, Change: -1}, api.ErrArg)
		g.put(api.Inode{Id: id, Kind: 1, Indirect: -1}, api.ErrArg)
		g.put(api.Inode{Id: id, Kind: 1, Direct: [8]int{7: -1}}, api.ErrArg)
	}
	g.wrote("a Put that was refused")
}

// TestP9_3WrittenAlways: even if it is the same.
func TestP9_3WrittenAlways(t *testing.T) {
	g := groundOf(t, 10)
	for s := range 10 {
		g.new(1, api.Inode{Id: 256 + s, Kind: 1, Change: 1}, api.OK)
	}
	g.commit()
	for s := range 10 {
		was := g.table()
		g.put(api.Inode{Id: 256 + s, Kind: 1, Change: 1}, api.OK)
		g.wrote("Put of what is there", g.l.Table+s/4)
		if !bytes.Equal(g.table(), was) {
			t.Fatal("Put of what is there has changed the table")
		}
		g.commit()
	}
}

// TestP9_3Twice: the last one counts, and nothing of the first one stays.
func TestP9_3Twice(t *testing.T) {
	g := groundOf(t, 3)
	g.new(2, api.Inode{Id: 256, Kind: 2, Change: 1}, api.OK)
	g.put(sample(g.l, 256, 2), api.OK)
	g.put(api.Inode{Id: 256, Kind: 2}, api.OK)
	g.get(256, api.Inode{Id: 256, Kind: 2}, api.OK)
	if got := g.table()[:128]; !bytes.Equal(got, place{1, true, api.Inode{Kind: 2}}.record()) {
		t.Errorf("the record is %x", got)
	}
}
