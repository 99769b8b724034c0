package file_test

import (
	"math"
	"testing"

	"annex/api"
)

// edges are places around the ends of pieces, of the direct ones, of the greatest contents.
var edges = []int{0, 1, 2, 511, 512, 513, 1023, 1024, 1025, 3583, 3584, 4095, 4096, 4097, 4607, 4608, 4609, 5000, 69119, 69120, 69121, 69631, 69632}

// TestP10_1EveryPlace: contents of all sizes, without holes; from each edge to each edge and beyond.
func TestP10_1EveryPlace(t *testing.T) {
	for _, size := range []int{1, 2, 511, 512, 513, 1024, 1500, 4095, 4096, 4097, 4609, 9000} {
		g := groundOf(t, 24)
		x, data := g.filled(first, size)
		for _, off := range append(edges, size-1, size, size+1, math.MaxInt-1, math.MaxInt) {
			for _, n := range append(edges, size, size-off, size-off+1, 700, math.MaxInt-1, math.MaxInt) {
				got, _ := g.read(x, off, max(n, 0))
				want := ""
				if off < size {
					want = string(data[off:min(size, off+min(max(n, 0), size))])
				}
				if string(got) != want {
					t.Fatalf("of %d bytes Read(%d, %d) has %d", size, off, n, len(got))
				}
			}
		}
		g.same("Read")
	}
}

// TestP10_1GreatestContents: each piece has a block.
func TestP10_1GreatestContents(t *testing.T) {
	g := groundOf(t, 140)
	x, data := g.filled(first, 69632)
	g.reads(x, 0, 69632, string(data))
	for _, off := range edges {
		for _, n := range []int{1, 511, 512, 513, 1024, 69632, math.MaxInt} {
			g.reads(x, off, n, string(data[off:off+min(n, 69632-off)]))
		}
	}
}

// TestP10_1Holes: holes among the direct pieces, in the indirect block, and where there is none.
func TestP10_1Holes(t *testing.T) {
	g := groundOf(t, 20)
	x := g.wrote(first, 600, "aa")
	x = g.wrote(x, 2047, "bb")
	x = g.wrote(x, 4095, "c")
	g.reads(x, 0, 600, string(make([]byte, 600)))
	x = g.wrote(x, 9*512+511, "dd")
	x = g.wrote(x, 69630, "e")
	want := make([]byte, 69631)
	copy(want[600:], "aa")
	copy(want[2047:], "bb")
	copy(want[4095:], "c")
	copy(want[9*512+511:], "dd")
	copy(want[69630:], "e")
	g.reads(x, 0, 69632, string(want))
	for _, off := range edges {
		g.read(x, off, 1)
		g.read(x, off, 1024)
	}
	none := api.Inode{Id: 256, Kind: 1, Size: 69632}
	g.reads(none, 0, 69632, string(make([]byte, 69632)))
	g.reads(none, 69631, 9, "\x00")
}

// TestP10_1BehindTheEnd: what stands in a block behind the end is not told; x is taken as it is handed in.
func TestP10_1BehindTheEnd(t *testing.T) {
	g := groundOf(t, 20)
	x, data := g.filled(first, 5000)
	for _, size := range []int{0, 1, 511, 512, 513, 4095, 4096, 4097, 4999} {
		short := x
		short.Size = size
		g.reads(short, 0, 9999, string(data[:size]))
		g.reads(short, size, 9999, "")
	}
	stale := x
	stale.Id, stale.Kind, stale.Change = 0, 77, -5
	g.reads(stale, 0, 9999, string(data))
}

// TestP10_1Arguments: they are judged ahead of x.
func TestP10_1Arguments(t *testing.T) {
	g := groundOf(t, 20)
	x, _ := g.filled(first, 5000)
	bent := x
	bent.Size = -1
	for _, y := range []api.Inode{x, bent, first} {
		for _, c := range [][2]int{{-1, 1}, {1, -1}, {-1, -1}, {math.MinInt, 0}, {0, math.MinInt}, {math.MinInt, math.MinInt}, {math.MinInt, math.MaxInt}, {math.MaxInt, math.MinInt}} {
			if _, code := g.read(y, c[0], c[1]); code != api.ErrArg {
				t.Errorf("Read(%d, %d) = %d", c[0], c[1], code)
			}
		}
	}
	g.same("Read")
}

// TestP10_1BentNumbers: only those of the pieces that are read are judged.
func TestP10_1BentNumbers(t *testing.T) {
	for _, p := range []int{8, 9, 10, 63, 134, 135} {
		for _, bad := range notData(layoutOf(t, 20)) {
			if bad < 0 || bad > math.MaxUint32 || bad == 0 {
				continue
			}
			g := groundOf(t, 20)
			x := first
			x.Size, x.Indirect = 69632, g.l.Data+3
			numbers := map[int]int{p: bad}
			if p > 8 {
				numbers[p-1] = g.l.Data + 1
			}
			g.layNumbers(x.Indirect, numbers)
			for _, c := range []struct {
				off, n int
				want   api.Errno
			}{
				{0, p * 512, api.OK}, {0, p*512 + 1, api.ErrBent}, {p*512 - 1, 1, api.OK}, {p*512 - 1, 2, api.ErrBent},
				{p * 512, 1, api.ErrBent}, {p * 512, 0, api.OK}, {p*512 + 511, 1, api.ErrBent}, {p*512 + 512, 1024, api.OK}, {0, 69632, api.ErrBent},
			} {
				if _, code := g.read(x, c.off, c.n); code != c.want {
					t.Errorf("the piece %d is %d: Read(%d, %d) = %d, want %d", p, bad, c.off, c.n, code, c.want)
				}
			}
			x.Size = p * 512
			if _, code := g.read(x, 0, 69632); code != api.OK {
				t.Errorf("Read up to the end, ahead of the piece %d = %d", p, code)
			}
		}
	}
}

// notData are blocks that are no data blocks of a layout, and numbers of no block.
func notData(l api.Layout) []int {
	return []int{
		math.MinInt, math.MinInt + l.Data, -1 << 32, -l.Data, -1, 1, l.Journal, l.Ledger, l.Bits, l.Table, l.Data - 1,
		l.Data + l.DataLen, l.Data + l.DataLen + 1, 4096, 1<<24 + l.Data, 1<<31 + l.Data, 1<<32 - 1, 1 << 32, 1<<32 + l.Data, math.MaxInt,
	}
}

// TestP10_1Bent: each of the nine numbers, and the size, in all calls; also where nothing would be read or done.
func TestP10_1Bent(t *testing.T) {
	g := groundOf(t, 20)
	x, _ := g.filled(first, 5000)
	all := func(y api.Inode, size api.Errno) {
		t.Helper()
		_, a := g.read(y, 0, 0)
		_, b := g.read(y, 70000, 1)
		_, c := g.write(y, 0, nil)
		_, d := g.write(y, 0, []byte("x"))
		_, e := g.write(y, 70000, []byte("x"))
		_, f := g.cut(y, 0)
		_, h := g.blocks(y)
		for i, code := range []api.Errno{a, b, c, d, e, h} {
			if code != api.ErrBent {
				t.Errorf("%+v: the call %d = %d", y, i, code)
			}
		}
		if f != size {
			t.Errorf("%+v: Cut = %d", y, f)
		}
	}
	for _, bad := range notData(g.l) {
		for i := range 9 {
			y := x
			if i < 8 {
				y.Direct[i] = bad
			} else {
				y.Indirect = bad
			}
			all(y, api.ErrBent)
			y.Size = 0
			all(y, api.ErrBent)
		}
	}
	for _, size := range []int{69633, 70000, 1 << 32, math.MaxInt, -1, -512, math.MinInt} {
		y := x
		y.Size = size
		if size < 0 {
			all(y, api.ErrArg)
			continue
		}
		all(y, api.ErrBent)
		if _, code := g.cut(y, size); code != api.ErrBent {
			t.Errorf("Cut of %d to %d = %d", size, size, code)
		}
	}
	for i := range g.l.DataLen {
		y := api.Inode{Id: 256, Kind: 1, Size: 69632, Indirect: g.l.Data + i}
		y.Direct[i%8] = g.l.Data + i
		if _, code := g.read(y, 0, 4096); code != api.OK {
			t.Errorf("Read with the data block %d = %d", g.l.Data+i, code)
		}
	}
}
