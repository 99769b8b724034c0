package ledger_test

import (
	"encoding/binary"
	"math"
	"testing"

	"annex/api"
)

// lengths are those of replies: around the ends of a slot's blocks, the least, the greatest.
var lengths = []int{1, 2, 3, 4, 5, 487, 488, 489, 512, 513, 999, 1000, 1001, 1024, 1398, 1399, 1400}

// notSeqs are no seqs.
var notSeqs = []int{math.MinInt, -last, -1 << 32, -1, 0, last + 1, last + 1<<32, math.MaxInt}

// seqs are seqs at their edges.
var seqs = []int{1, 2, 255, 256, 1<<32 - 1, 1 << 32, 1<<32 + 1, 1<<61 + 3, last - 1, last}

func text(n int) string { return string(noise(int64(n), n)) }

// crooked are heads that may not be, of a shape of three clients: each by one number alone.
var crooked = []head{
	{3, 5, 7, 9}, {4, 5, 7, 9}, {8, 5, 7, 9}, {256, 5, 7, 9}, {1 << 24, 5, 7, 9}, {1<<31 + 1, 5, 7, 9}, {math.MaxUint32, 5, 7, 9},
	{1, 0, 7, 9}, {1, 1401, 7, 9}, {1, 1512, 7, 9}, {1, 1513, 7, 9}, {1, 1<<16 + 1, 7, 9}, {1, 1<<31 + 5, 7, 9}, {1, math.MaxUint32, 7, 9},
	{1, 5, last + 1, 9}, {1, 5, 1<<63 - 1, 9}, {1, 5, 1 << 63, 9}, {1, 5, 1<<63 + 7, 9}, {1, 5, math.MaxUint64, 9},
	{1, 5, 7, 0}, {1, 5, 7, last + 1}, {1, 5, 7, 1<<63 - 1}, {1, 5, 7, 1 << 63}, {1, 5, 7, 1<<63 + 9}, {1, 5, 7, math.MaxUint64},
}

// straight are heads at the edges of what may be.
var straight = []head{
	{0, 1, 1, 1}, {2, 1, 1, 1}, {0, 1400, 1, 1}, {0, 1, last, 1}, {0, 1, 1, last}, {2, 1400, last, last}, {1, 256, 1 << 56, 1 << 56},
}

// hollow are heads of empty slots: their other numbers may be anything.
var hollow = []head{{}, {1, 5, 0, 9}, {3, 0, 0, 0}, {math.MaxUint32, math.MaxUint32, 0, math.MaxUint64}, {0, 0, 0, last + 1}}

// layHead writes a slot by hand, its reply being noise.
func (g *ground) layHead(i int, h head) {
	g.t.Helper()
	g.lay(i, h, "")
}

// TestP13_3Lengths: replies of each length, in the first and in the last slot.
func TestP13_3Lengths(t *testing.T) {
	g := groundOf(t, 2, 3)
	for _, n := range lengths {
		for i := range 3 {
			g.lay(i, head{1, uint32(n), 7 + uint64(i), 9}, text(n + i)[i:])
		}
		for i := range 3 {
			g.has(1, 7+i, text(n + i)[i:])
		}
		g.has(1, 6, "")
		g.has(1, 10, "")
		g.has(0, 7, "")
	}
}

// TestP13_3EachLength: all of them.
func TestP13_3EachLength(t *testing.T) {
	g := groundOf(t, 1, 1)
	for n := 1; n <= 1400; n++ {
		g.lay(0, head{0, uint32(n), uint64(n), 1}, text(n))
		g.has(0, n, text(n))
	}
}

// TestP13_3Seqs: each seq is itself alone; those that are none are an error.
func TestP13_3Seqs(t *testing.T) {
	g := groundOf(t, 3, 1)
	for _, kept := range seqs {
		g.lay(0, head{2, 3, uint64(kept), 5}, "abc")
		for _, seq := range seqs {
			_, ok, code := g.find(2, seq)
			is(t, "Find", code, api.OK)
			is(t, "whether it is found", ok, seq == kept)
			g.has(1, seq, "")
		}
		for _, seq := range notSeqs {
			_, _, code := g.find(2, seq)
			is(t, "Find", code, api.ErrArg)
			_, _, code = g.find(3, seq)
			is(t, "Find", code, api.ErrNoClient)
		}
	}
}

// TestP13_3FirstOne: of two of one client and seq that of the lower slot; what is bent behind it is not met.
func TestP13_3FirstOne(t *testing.T) {
	for first := range 4 {
		for second := first + 1; second < 5; second++ {
			g := groundOf(t, 2, 5)
			g.lay(first, head{1, 3, 7, 9}, "one")
			g.lay(second, head{1, 3, 7, 2}, "two")
			g.has(1, 7, "one")
			g.layHead(second, head{1, 0, 7, 2})
			g.has(1, 7, "one")
			_, _, code := g.find(1, 8)
			is(t, "Find of another", code, api.ErrLedger)
			g.layHead(first, head{})
			_, _, code = g.find(1, 7)
			is(t, "Find", code, api.ErrLedger)
		}
	}
}

// TestP13_3Bent: each way in which a slot is bent, ahead of the one that is asked for and behind it.
func TestP13_3Bent(t *testing.T) {
	for _, h := range crooked {
		g := groundOf(t, 3, 3)
		g.lay(1, head{2, 4, 7, 9}, "seen")
		g.layHead(2, h)
		g.has(2, 7, "seen")
		_, _, code := g.find(2, 6)
		is(t, "Find of none", code, api.ErrLedger)
		_, _, code = g.find(1, 7)
		is(t, "Find of the bent one", code, api.ErrLedger)
		g.layHead(2, head{})
		g.layHead(0, h)
		_, _, code = g.find(2, 7)
		is(t, "Find behind it", code, api.ErrLedger)
		for _, seq := range notSeqs {
			_, _, code = g.find(2, seq)
			is(t, "Find of no seq", code, api.ErrArg)
		}
	}
}

// TestP13_3Straight: what is just not bent.
func TestP13_3Straight(t *testing.T) {
	for _, h := range straight {
		g := groundOf(t, 3, 2)
		g.layHead(0, h)
		b, ok, code := g.find(int(h.Client), int(h.Seq))
		is(t, "Find", code, api.OK)
		is(t, "whether it is found", ok, true)
		is(t, "its length", len(b), int(h.Length))
	}
}

// TestP13_3Hollow: an empty slot is passed by, whatever stands in it.
func TestP13_3Hollow(t *testing.T) {
	for _, h := range hollow {
		g := groundOf(t, 3, 2)
		g.layHead(0, h)
		g.lay(1, head{1, 3, 7, 9}, "abc")
		g.has(1, 7, "abc")
		g.has(1, 8, "")
		for _, c := range []int{0, 1, 2} {
			g.has(c, 1, "")
		}
	}
}

// TestP13_3WatermarksAreNotLookedAt: bent ones, and such as have passed the reply.
func TestP13_3WatermarksAreNotLookedAt(t *testing.T) {
	for _, m := range append([]uint64{0, 6, 7, 8, last}, bentMarks...) {
		g := groundOf(t, 2, 2)
		g.lay(0, head{1, 3, 7, 9}, "abc")
		g.layMark(0, m)
		g.layMark(1, m)
		g.has(1, 7, "abc")
		g.has(1, 8, "")
		_, code := g.all()
		is(t, "All", code, api.OK)
	}
}

// TestP13_3EachSlot: a full ledger of the greatest cache; each reply is found, in whichever slot.
func TestP13_3EachSlot(t *testing.T) {
	l := layoutOf(t, 8, 64)
	w := told{8, 64, make([]byte, 512*l.LedgerLen), make([]bool, l.LedgerLen)}
	for i := range 64 {
		w.lay(i, head{uint32(i % 8), uint32(1 + 22*i), uint64(1 + i/8), uint64(i + 1)}, []byte(text(1+22*i)))
	}
	g := groundWith(t, l, w.bytes)
	for i := range 64 {
		g.has(i%8, 1+i/8, text(1+22*i))
		g.has(i%8, 9+i/8, "")
	}
	is(t, "blocks written", len(g.x.Blocks()), 0)
}

// TestP13_3Where: the bytes of a slot by hand, at the place that the chapter says.
func TestP13_3Where(t *testing.T) {
	g := groundOf(t, 8, 5)
	for i := range 5 {
		block := make([]byte, 512)
		binary.BigEndian.PutUint32(block, 6)
		binary.BigEndian.PutUint32(block[4:], 3)
		binary.BigEndian.PutUint64(block[8:], 0x0102030405060708)
		binary.BigEndian.PutUint64(block[16:], 0x1112131415161718)
		copy(block[24:], "xyz")
		is(t, "Write", g.x.Write(g.l.Ledger+1+3*i, block), api.OK)
		b, ok, code := g.asked(6, 0x0102030405060708)
		is(t, "Find", string(b), "xyz")
		is(t, "Find", ok, true)
		is(t, "Find", code, api.OK)
		g.drop()
	}
}
