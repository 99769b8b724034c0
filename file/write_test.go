package file_test

import (
	"math"
	"slices"
	"strings"
	"testing"

	"annex/api"
	"annex/file"
)

// TestP10_2EveryPlace: from each edge on, some bytes, over contents of each size; what was there stays.
func TestP10_2EveryPlace(t *testing.T) {
	for _, size := range []int{0, 1, 512, 700, 4096, 4097, 5200} {
		g := groundOf(t, 40)
		x, data := g.filled(first, size)
		for _, off := range append(edges, size) {
			for _, n := range []int{1, 2, 511, 512, 513, 1024, 1536, 3000} {
				if off+n > 69632 {
					continue
				}
				mark, _ := g.x.Save()
				ahead := g.w.clone()
				part := noise(int64(n), n)
				y := g.wrote(x, off, string(part))
				want := slices.Clone(data)
				want = append(want, make([]byte, max(0, off+n-size))...)
				copy(want[off:], part)
				g.reads(y, 0, 69632, string(want))
				g.x.Back(mark)
				g.w = ahead
			}
		}
	}
}

// TestP10_2WhatIsTaken: the lowest free blocks, the indirect one ahead of the piece that needs it, piece by piece.
func TestP10_2WhatIsTaken(t *testing.T) {
	g := groundOf(t, 40)
	d := g.l.Data
	g.use(d, d+2, d+3, d+7)
	x := g.wrote(first, 6*512+100, strings.Repeat("a", 4*512))
	want := first
	want.Size, want.Direct, want.Indirect = 10*512+100, [8]int{6: d + 1, 7: d + 4}, d+5
	is(t, "x", x, want)
	g.numbersAre(x, map[int]int{8: d + 6, 9: d + 8, 10: d + 9})
	x = g.wrote(x, 135*512, "z")
	want.Size = 135*512 + 1
	is(t, "x", x, want)
	g.numbersAre(x, map[int]int{8: d + 6, 9: d + 8, 10: d + 9, 135: d + 10})
	x = g.wrote(x, 511, "yy")
	want.Direct[0], want.Direct[1] = d+11, d+12
	is(t, "x", x, want)
}

// numbersAre asks for all numbers of an indirect block, its bytes written out.
func (g *ground) numbersAre(x api.Inode, want map[int]int) {
	g.t.Helper()
	got, code := g.x.Read(x.Indirect)
	if code != api.OK {
		g.t.Fatalf("Read of the indirect block: %d", code)
	}
	for p := 8; p < 136; p++ {
		b := want[p]
		if part := got[4*p-32 : 4*p-28]; string(part) != string([]byte{byte(b >> 24), byte(b >> 16), byte(b >> 8), byte(b)}) {
			g.t.Fatalf("the number of the piece %d is %x, want %d", p, part, b)
		}
	}
}

// TestP10_2BeginsWithZeros: what a block held before is not seen in it.
func TestP10_2BeginsWithZeros(t *testing.T) {
	g := groundOf(t, 40)
	x := g.wrote(first, 700, "a")
	x = g.wrote(x, 1500, "b")
	x = g.wrote(x, 4196, "c")
	for _, c := range []struct {
		block, at int
		what      byte
	}{{x.Direct[1], 188, 'a'}, {x.Direct[2], 476, 'b'}, {g.l.Data + 3, 100, 'c'}} {
		want := make([]byte, 512)
		want[c.at] = c.what
		got, _ := g.x.Read(c.block)
		is(t, "the block", string(got), string(want))
	}
	g.numbersAre(x, map[int]int{8: g.l.Data + 3})
}

// TestP10_2EverythingElseStays: also bytes that a block made by hand has behind the end, and blocks that it has there.
func TestP10_2EverythingElseStays(t *testing.T) {
	g := groundOf(t, 40)
	d := g.l.Data
	x := api.Inode{Id: 256, Kind: 1, Change: 9, Size: 10, Direct: [8]int{d, d + 5, 0, d + 6}, Indirect: d + 7}
	g.use(d, d+5, d+6, d+7, d+8)
	g.layNumbers(d+7, map[int]int{20: d + 8})
	was := g.w.b[d]
	y := g.wrote(x, 300, "abc")
	want := x
	want.Size = 303
	is(t, "y", y, want)
	g.reads(y, 0, 300, string(was[:300]))
	y.Size = 512
	g.reads(y, 303, 300, string(was[303:]))
	z := g.wrote(x, 512, "z")
	want.Size = 513
	is(t, "z", z, want)
	g.reads(z, 10, 502, string(was[10:300])+"abc"+string(was[303:]))
}

// TestP10_2Size: it is what it was or the end of data.
func TestP10_2Size(t *testing.T) {
	g := groundOf(t, 40)
	x := g.wrote(first, 0, strings.Repeat("a", 1000))
	for _, c := range []struct{ off, n, want int }{{0, 1, 1000}, {999, 1, 1000}, {0, 1000, 1000}, {999, 2, 1001}, {1000, 1, 1001}, {1001, 1, 1002}, {0, 1001, 1001}, {5000, 1, 5001}, {69631, 1, 69632}} {
		y, code := file.Write(g.x, g.l, x, c.off, make([]byte, c.n))
		if y.Size != c.want || code != api.OK {
			t.Errorf("Write(%d, %d bytes): Size %d, %d, want %d", c.off, c.n, y.Size, code, c.want)
		}
	}
}

// TestP10_2Directories: of another kind, with another change; only contents are this package's business.
func TestP10_2Directories(t *testing.T) {
	g := groundOf(t, 40)
	want := second
	want.Size, want.Direct[0] = 5, g.l.Data
	is(t, "a directory", g.wrote(second, 0, "hello"), want)
	g.reads(want, 0, 9, "hello")
	want.Size, want.Direct[0] = 0, 0
	is(t, "a directory, cut", g.cutTo(g.wrote(second, 0, "hello"), 0), second)
}

// TestP10_2Nothing: no bytes: x as it is, whatever its record, also without a transaction.
func TestP10_2Nothing(t *testing.T) {
	g := groundOf(t, 40)
	x, _ := g.filled(first, 700)
	odd := x
	odd.Id, odd.Kind, odd.Change = -5, 9, -1
	for _, y := range []api.Inode{x, odd, {}} {
		for _, off := range []int{0, 1, 700, 701, 5000, 69632} {
			for _, data := range [][]byte{nil, {}, make([]byte, 0, 9)} {
				got, code := g.write(y, off, data)
				is(t, "Write of nothing", got, y)
				is(t, "Write of nothing", code, api.OK)
				got, code = file.Write(nil, g.l, y, off, data)
				is(t, "Write of nothing without a transaction", got, y)
				is(t, "Write of nothing without a transaction", code, api.OK)
			}
		}
		for _, off := range []int{69633, 1 << 40, math.MaxInt} {
			_, code := g.write(y, off, nil)
			is(t, "Write of nothing, too far", code, api.ErrFBig)
		}
	}
	if list := g.x.Blocks(); len(list) > 0 {
		t.Errorf("the blocks %v have been written", list)
	}
}

func TestP10_2FBig(t *testing.T) {
	g := groundOf(t, 40)
	x, _ := g.filled(first, 700)
	for _, c := range []struct{ off, n int }{{69632, 1}, {69631, 2}, {69000, 633}, {0, 69633}, {1, 69632}, {0, 1 << 20}, {69633, 1}, {math.MaxInt, 1}, {math.MaxInt, 70000}, {math.MaxInt - 1, 1}, {math.MaxInt - 69632, 69633}} {
		if _, code := g.write(x, c.off, make([]byte, c.n)); code != api.ErrFBig {
			t.Errorf("Write(%d, %d bytes) = %d", c.off, c.n, code)
		}
	}
	for _, c := range []struct{ off, n int }{{69631, 1}, {69000, 632}, {69632 - 1024, 1024}} {
		if y := g.wrote(x, c.off, string(make([]byte, c.n))); y.Size != 69632 {
			t.Errorf("Write(%d, %d bytes): Size %d", c.off, c.n, y.Size)
		}
	}
	for _, off := range []int{-1, -512, math.MinInt} {
		bent := x
		bent.Size = -1
		for _, y := range []api.Inode{x, bent} {
			for _, n := range []int{0, 1, 70000} {
				if _, code := g.write(y, off, make([]byte, n)); code != api.ErrArg {
					t.Errorf("Write(%d, %d bytes) = %d", off, n, code)
				}
			}
		}
	}
}

// TestP10_2NoSpace: with each number of blocks that are free.
func TestP10_2NoSpace(t *testing.T) {
	for free := range 8 {
		g := groundOf(t, 12)
		for i := range 12 - free {
			g.use(g.l.Data + 11 - i)
		}
		for _, c := range []struct{ off, n, needs int }{{0, 1, 1}, {511, 2, 2}, {512, 1024, 2}, {100, 1024, 3}, {4095, 1, 1}, {4095, 2, 3}, {4096, 1, 2}, {5000, 1024, 4}, {69631, 1, 2}, {3072, 2048, 5}} {
			mark, _ := g.x.Save()
			ahead := g.w.clone()
			_, code := g.write(first, c.off, noise(1, c.n))
			if want := map[bool]api.Errno{true: api.OK, false: api.ErrSpace}[c.needs <= free]; code != want {
				t.Errorf("%d blocks are free: Write(%d, %d bytes) = %d, want %d", free, c.off, c.n, code, want)
			}
			g.x.Back(mark)
			g.w = ahead
		}
	}
}

// TestP10_2NoSpaceNeeded: what is there is written over, though no block is free.
func TestP10_2NoSpaceNeeded(t *testing.T) {
	g := groundOf(t, 12)
	x, _ := g.filled(first, 5500)
	is(t, "blocks in use", len(g.blocksOf(x)), 12)
	data := noise(9, 5632)
	x = g.wrote(x, 0, string(data))
	g.reads(x, 0, 9999, string(data))
	_, code := g.write(x, 5632, []byte("a"))
	is(t, "Write behind the last block", code, api.ErrSpace)
}

func (g *ground) blocksOf(x api.Inode) []int {
	g.t.Helper()
	list, code := g.blocks(x)
	if code != api.OK {
		g.t.Fatalf("Blocks(%+v) = %d", x, code)
	}
	return list
}

// TestP10_2BentNumbers: those that data touches alone are judged, each in its turn.
func TestP10_2BentNumbers(t *testing.T) {
	g := groundOf(t, 12)
	d := g.l.Data
	x := api.Inode{Id: 256, Kind: 1, Size: 5000, Indirect: d + 9}
	for _, bad := range []int{1, d - 1, d + 12, 1<<32 - 1} {
		g.layNumbers(d+9, map[int]int{9: bad, 11: d + 11})
		for _, c := range []struct {
			from, to int
			want     api.Errno
		}{{8, 9, api.OK}, {9, 10, api.ErrBent}, {7, 10, api.ErrBent}, {8, 11, api.ErrBent}, {10, 12, api.OK}, {135, 136, api.OK}, {0, 8, api.OK}} {
			if _, code := g.write(x, c.from*512, make([]byte, 512*(c.to-c.from))); code != c.want {
				t.Errorf("Write of the pieces from %d to %d = %d, want %d", c.from, c.to, code, c.want)
			}
			g.x.Drop()
			g = groundOf(t, 12)
			g.layNumbers(d+9, map[int]int{9: bad, 11: d + 11})
		}
	}
}

// TestP10_2ErrorsInTurn: which comes first is the piece's own order: no block for the piece ahead, a bent number behind it, and the other way round.
func TestP10_2ErrorsInTurn(t *testing.T) {
	full := groundOf(t, 12)
	d := full.l.Data
	for i := range 12 {
		full.use(d + i)
	}
	x := api.Inode{Id: 256, Kind: 1, Size: 5000, Indirect: d}
	full.layNumbers(d, map[int]int{9: 1})
	_, code := full.write(x, 4096, make([]byte, 1024))
	is(t, "no block, then bent", code, api.ErrSpace)
	full.layNumbers(d, map[int]int{8: 1})
	_, code = full.write(x, 4096, make([]byte, 1024))
	is(t, "bent, then no block", code, api.ErrBent)
	_, code = full.write(x, 4095, make([]byte, 1024))
	is(t, "no block for the last direct piece", code, api.ErrSpace)
	x.Direct[7], x.Id = d+1, 4
	_, code = full.write(x, 4095, make([]byte, 1024))
	is(t, "bent, then stale", code, api.ErrBent)
	full.layNumbers(d, map[int]int{8: d + 3, 9: d + 4})
	_, code = full.write(x, 4095, make([]byte, 1024))
	is(t, "stale", code, api.ErrStale)
}

// TestP10_2ReadWhenAskedFor: the indirect block is the last direct piece's block too: what is written there first are its numbers.
func TestP10_2ReadWhenAskedFor(t *testing.T) {
	g := groundOf(t, 30)
	d := g.l.Data
	g.use(d, d+1, d+2)
	g.layNumbers(d, map[int]int{8: d + 1})
	x := api.Inode{Id: 256, Kind: 1, Size: 4608, Direct: [8]int{7: d}, Indirect: d}
	data := make([]byte, 1024)
	data[3] = byte(d + 2)
	copy(data[512:], "abc")
	g.wrote(x, 3584, string(data))
	b, _ := g.x.Read(d + 2)
	is(t, "the block that the new number tells", string(b[:3]), "abc")
	data[3] = 1
	_, code := g.write(x, 3584, data)
	is(t, "a new number that is bent", code, api.ErrBent)
	data[3] = 0
	y := g.wrote(x, 3584, string(data))
	is(t, "the inode", y, x)
	g.numbersAre(y, map[int]int{8: d + 3})
}

// TestP10_2ReadOnce: a number of the indirect block is its own: what is written there does not change the numbers of this call.
func TestP10_2ReadOnce(t *testing.T) {
	g := groundOf(t, 30)
	d := g.l.Data
	g.use(d, d+1)
	x := api.Inode{Id: 256, Kind: 1, Size: 5120, Indirect: d}
	g.layNumbers(d, map[int]int{8: d, 9: d + 1})
	g.wrote(x, 4096, strings.Repeat("\xff", 1024))
	b, _ := g.x.Read(d)
	is(t, "the indirect block, no number changed", string(b), strings.Repeat("\xff", 512))

	g.layNumbers(d, map[int]int{8: d})
	g.wrote(x, 4096, strings.Repeat("\xff", 1024))
	g.numbersAre(x, map[int]int{8: d, 9: d + 2})
}

// TestP10_2WrongBitmap: made by hand: a block of x is taken once more.
func TestP10_2WrongBitmap(t *testing.T) {
	g := groundOf(t, 30)
	d := g.l.Data
	x := api.Inode{Id: 256, Kind: 1, Size: 4096, Direct: [8]int{0, d, 7: d + 1}}
	y := g.wrote(x, 0, strings.Repeat("a", 512)+"b")
	is(t, "the first piece's block", y.Direct[0], d)
	g.reads(y, 0, 2, "ba")
	y = g.wrote(y, 3584, strings.Repeat("c", 513))
	is(t, "the indirect block", y.Indirect, d+1)
	g.numbersAre(y, map[int]int{8: d + 2})
	g.x.Drop()
	g = groundOf(t, 30)
	g.layNumbers(d, nil)
	x = api.Inode{Id: 256, Kind: 1, Size: 4096, Indirect: d}
	_, code := g.write(x, 3584, []byte(strings.Repeat("c", 513)))
	is(t, "the indirect block taken for the piece ahead", code, api.ErrBent)
}

// TestP10_2IndirectWritten: only if it is new, or a number in it has changed.
func TestP10_2IndirectWritten(t *testing.T) {
	g := groundOf(t, 30)
	x, _ := g.filled(first, 5120)
	for _, c := range []struct {
		off, n int
		want   bool
	}{{0, 100, false}, {4095, 2, false}, {4096, 1024, false}, {5119, 1, false}, {5119, 2, true}, {69631, 1, true}} {
		g.wrote(x, c.off, string(make([]byte, c.n)))
		is(t, "the indirect block is written", slices.Contains(g.x.Blocks(), x.Indirect), c.want)
		g.x.Drop()
		g.w = &told{g.l, g.was(), nil}
		g.begin()
	}
	y := g.wrote(second, 4096, "a")
	is(t, "a new indirect block is written", slices.Contains(g.x.Blocks(), y.Indirect), true)
}

// was is every block as it was committed.
func (g *ground) was() map[int][512]byte {
	x := g.j.Begin()
	defer x.Drop()
	all := map[int][512]byte{}
	for b := range g.w.b {
		data, _ := x.Read(b)
		all[b] = [512]byte(data)
	}
	return all
}

// TestP10_2PutErrors: a record that is not x's, or numbers that may not be.
func TestP10_2PutErrors(t *testing.T) {
	g := groundOf(t, 30)
	for _, c := range []struct {
		id, kind, change int
		want             api.Errno
	}{
		{256, 1, 0, api.OK}, {256, 1, 1 << 62, api.OK}, {256, 2, 0, api.ErrArg}, {256, 3, 0, api.ErrArg}, {256, 0, 0, api.ErrArg}, {256, 1, -1, api.ErrArg}, {256, 1, 1<<62 + 1, api.ErrArg},
		{512, 1, 0, api.ErrStale}, {255, 1, 0, api.ErrStale}, {0, 1, 0, api.ErrStale}, {-256, 1, 0, api.ErrStale}, {258, 1, 0, api.ErrStale}, {5<<8 | 2, 1, 0, api.ErrStale}, {259, 1, 0, api.ErrStale}, {257, 2, 0, api.ErrStale}, {3<<8 | 1, 2, 0, api.OK},
	} {
		x := api.Inode{Id: c.id, Kind: c.kind, Change: c.change}
		_, code := g.write(x, 0, []byte("a"))
		is(t, "Write", code, c.want)
		_, code = g.cut(x, 0)
		is(t, "Cut", code, c.want)
		x.Size = 700
		_, code = g.cut(x, 512)
		is(t, "Cut", code, c.want)
	}
	bad := g.w.b[g.l.Table]
	bad[127] = 1
	g.lay(g.l.Table, bad[:])
	_, code := file.Write(g.x, g.l, first, 0, []byte("a"))
	is(t, "Write with a record that may not be", code, api.ErrRecord)
	_, code = file.Cut(g.x, g.l, first, 0)
	is(t, "Cut with a record that may not be", code, api.ErrRecord)
}
