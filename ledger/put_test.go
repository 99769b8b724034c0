package ledger_test

import (
	"bytes"
	"fmt"
	"slices"
	"testing"

	"annex/api"
)

// TestP13_4Bytes: a slot as it stands on the device behind Put, written out.
func TestP13_4Bytes(t *testing.T) {
	for _, cache := range []int{1, 3} {
		l := layoutOf(t, 8, cache)
		b := noise(134, 512*l.LedgerLen)
		clear(b[:512])
		for i := range cache {
			clear(b[512+1536*i+8:][:8]) // empty, with noise all around
		}
		g := groundWith(t, l, b)
		for i := range cache {
			is(t, "Put", g.put(5, 0x0102030405060708+i, "hello"), api.OK)
			want := []byte{0, 0, 0, 5, 0, 0, 0, 5, 1, 2, 3, 4, 5, 6, 7, 8 + byte(i), 0, 0, 0, 0, 0, 0, 0, 1, 'h', 'e', 'l', 'l', 'o'}
			got := g.seen()[512+1536*i:][:1536]
			is(t, "the slot", string(got), string(append(want, make([]byte, 1536-len(want))...)))
			first := l.Ledger + 1 + 3*i
			is(t, "the blocks written", fmt.Sprint(g.x.Blocks()[3*i:]), fmt.Sprint([]int{first, first + 1, first + 2}))
		}
		g.commit()
	}
}

// TestP13_4Lengths: of replies; nothing of a longer one that was there stays.
func TestP13_4Lengths(t *testing.T) {
	g := groundOf(t, 2, 1)
	seq := 0
	for _, first := range lengths {
		for _, second := range lengths {
			for _, n := range []int{first, second} {
				seq++
				is(t, "Raise", g.raise(1, seq-1), api.OK)
				is(t, "Put", g.put(1, seq, text(n)), api.OK)
				g.has(1, seq, text(n))
				is(t, "how many blocks were written", len(g.x.Blocks()) >= 3, true)
				g.commit()
			}
		}
	}
}

// TestP13_4Replies: that are none, whatever else is wrong but the client.
func TestP13_4Replies(t *testing.T) {
	g := groundOf(t, 2, 2)
	g.layHead(0, head{1, 0, 3, 0})
	g.layMark(1, last+1)
	g.commit()
	for _, n := range []int{0, 1401, 1402, 1512, 1536, 4096, 1 << 20} {
		for _, seq := range []int{0, 1, last} {
			is(t, "Put", g.put(0, seq, text(n)), api.ErrArg)
			is(t, "Put", g.put(1, seq, text(n)), api.ErrArg)
			is(t, "Put", g.put(2, seq, text(n)), api.ErrNoClient)
		}
	}
	for _, seq := range notSeqs {
		is(t, "Put", g.put(0, seq, "a"), api.ErrArg)
		is(t, "Put", g.put(1, seq, "a"), api.ErrArg)
		is(t, "Put", g.put(2, seq, "a"), api.ErrNoClient)
	}
	is(t, "blocks written", len(g.x.Blocks()), 0)
}

// TestP13_4Seqs: all that may be.
func TestP13_4Seqs(t *testing.T) {
	for _, seq := range seqs {
		g := groundOf(t, 3, 2)
		is(t, "Put", g.put(2, seq, "abc"), api.OK)
		is(t, "Put again", g.put(2, seq, "abc"), api.ErrKept)
		is(t, "Put of another client", g.put(1, seq, "def"), api.OK)
		g.has(2, seq, "abc")
		g.has(1, seq, "def")
		g.has(0, seq, "")
		g.commit()
	}
}

// TestP13_4Old: at and below the client's own watermark, also where it is kept, or where a slot is bent.
func TestP13_4Old(t *testing.T) {
	for _, mark := range heights[1:] {
		g := groundOf(t, 2, 3)
		g.layMark(1, uint64(mark))
		g.lay(0, head{1, 1, uint64(mark), 1}, "x")
		g.layHead(2, head{1, 0, 1, 1})
		g.commit()
		for _, seq := range []int{1, mark - 1, mark} {
			if seq > 0 {
				is(t, "Put", g.put(1, seq, "y"), api.ErrOld)
				is(t, "Put of another client", g.put(0, seq, "y"), api.ErrLedger)
			}
		}
		if mark < last {
			is(t, "Put above", g.put(1, mark+1, "y"), api.ErrLedger)
		}
		g.layHead(2, head{})
		if mark < last {
			is(t, "Put above", g.put(1, mark+1, "y"), api.OK)
		}
		is(t, "Put of another client", g.put(0, 1, "y"), api.OK)
	}
}

// TestP13_4MarkBent: its own is an error always, ahead of the slots'.
func TestP13_4MarkBent(t *testing.T) {
	for _, bent := range bentMarks {
		g := groundOf(t, 3, 2)
		is(t, "Put", g.put(1, 7, "x"), api.OK)
		g.layMark(1, bent)
		g.commit()
		for _, seq := range []int{1, 7, 8, last} {
			is(t, "Put", g.put(1, seq, "y"), api.ErrLedger)
		}
		is(t, "Put of another client", g.put(0, 7, "y"), api.OK) // a slot is empty: no other watermark is asked for
		is(t, "Put that is kept", g.put(0, 7, "z"), api.ErrKept)
		is(t, "Put where all are taken", g.put(0, 8, "z"), api.ErrLedger)
		is(t, "Raise", g.raise(0, 7), api.OK)
		is(t, "Put where one might go", g.put(0, 8, "z"), api.ErrLedger)
		is(t, "Put of a third one", g.put(2, 1, "z"), api.ErrLedger)
		g.commit()
	}
}

// TestP13_4MarkBentOfNobody: a bent watermark whose client has no slot is not asked for.
func TestP13_4MarkBentOfNobody(t *testing.T) {
	for _, bent := range bentMarks {
		g := groundOf(t, 3, 2)
		is(t, "Put", g.put(0, 1, "x"), api.OK)
		is(t, "Put", g.put(1, 1, "x"), api.OK)
		g.layMark(2, bent)
		is(t, "Put", g.put(0, 2, "y"), api.ErrCacheFull)
		is(t, "Raise", g.raise(1, 1), api.OK)
		is(t, "Put", g.put(0, 2, "y"), api.OK)
		g.in(1, 0, 2, "y")
	}
}

// TestP13_4Bent: a slot that is bent, wherever it is, is told ahead of a reply that is kept and of an empty slot.
func TestP13_4Bent(t *testing.T) {
	for n, h := range crooked {
		for i := range 3 {
			g := groundOf(t, 3, 3)
			g.lay((i+1)%3, head{2, 4, 7, 9}, "seen")
			g.layHead(i, h)
			g.commit()
			for _, seq := range []int{7, 8} {
				is(t, fmt.Sprintf("Put, way %d, slot %d", n, i), g.put(2, seq, "x"), api.ErrLedger)
			}
			is(t, "blocks written", len(g.x.Blocks()), 0)
			g.same("Put")
		}
	}
}

// TestP13_4Kept: in whichever slot, ahead of an empty one and of one that may go.
func TestP13_4Kept(t *testing.T) {
	for i := range 4 {
		g := groundOf(t, 2, 4)
		g.lay(i, head{1, 4, 7, 9}, "kept")
		g.lay((i+1)%4, head{0, 1, 1, 1}, "x")
		g.layMark(0, 1)
		g.commit()
		is(t, "Put", g.put(1, 7, "new"), api.ErrKept)
		g.has(1, 7, "kept")
		is(t, "blocks written", len(g.x.Blocks()), 0)
	}
}

// TestP13_4FirstEmpty: the lowest slot that is empty, though others might go.
func TestP13_4FirstEmpty(t *testing.T) {
	for full := range 1 << 5 {
		for n, h := range hollow {
			g := groundOf(t, 3, 5)
			for i := range 5 {
				if full>>i&1 == 1 {
					g.lay(i, head{1, 1, uint64(i + 1), uint64(9 - i)}, "x")
				} else {
					g.layHead(i, h)
				}
			}
			if n%2 == 0 {
				g.layMark(1, 9)
			}
			g.commit()
			first := slices.IndexFunc([]int{1, 2, 4, 8, 16}, func(b int) bool { return full&b == 0 })
			switch {
			case first >= 0:
				is(t, "Put", g.put(2, 3, "new"), api.OK)
				g.in(first, 2, 3, "new")
			case n%2 == 0:
				is(t, "Put", g.put(2, 3, "new"), api.OK)
				g.in(4, 2, 3, "new")
			default:
				is(t, "Put", g.put(2, 3, "new"), api.ErrCacheFull)
			}
			g.same("Put")
		}
	}
}

// TestP13_4LeastStamp: of those that may go the one with the least stamp, of several such the first; its seq and client do not count.
func TestP13_4LeastStamp(t *testing.T) {
	for _, c := range []struct {
		stamps []uint64
		want   int
	}{
		{[]uint64{5, 4, 3, 2}, 3}, {[]uint64{2, 3, 4, 5}, 0}, {[]uint64{3, 2, 2, 3}, 1}, {[]uint64{7, 7, 7, 7}, 0},
		{[]uint64{9, 8, 1 << 40, 8}, 1}, {[]uint64{last, last, last - 1, last}, 2}, {[]uint64{last, last, last, last}, 0},
		{[]uint64{last, 1, last, 1}, 1}, {[]uint64{1 << 32, 1<<32 - 1, 1<<32 + 1, 1 << 33}, 1},
	} {
		g := groundOf(t, 2, 4)
		for i, stamp := range c.stamps {
			g.lay(i, head{uint32(i % 2), 1, uint64(9 - i), stamp}, "x")
		}
		g.layMark(0, 9)
		g.layMark(1, 8)
		g.commit()
		is(t, "Put", g.put(0, 10, "new"), api.OK)
		g.in(c.want, 0, 10, "new")
	}
}

// TestP13_4OwnWatermark: whether a reply may go hangs on the watermark of its own client, not on that of the caller.
func TestP13_4OwnWatermark(t *testing.T) {
	for owner := range 3 {
		for caller := range 3 {
			for _, seq := range []uint64{4, 5, 6} {
				g := groundOf(t, 3, 2)
				g.lay(0, head{uint32(owner), 1, seq, 3}, "x")
				g.lay(1, head{uint32(owner), 1, seq + 20, 2}, "y") // it never may, though its stamp is the less one
				for c := range 3 {
					mark := uint64(8)
					if c == owner {
						mark = 5
					}
					g.layMark(c, mark)
				}
				g.commit()
				if seq <= 5 {
					is(t, "Put", g.put(caller, 9, "new"), api.OK)
					g.in(0, caller, 9, "new")
				} else {
					is(t, "Put", g.put(caller, 9, "new"), api.ErrCacheFull)
				}
				g.in(1, owner, int(seq)+20, "y")
			}
		}
	}
}

// TestP13_4MarkOfThisTransaction: what was raised in it counts at once, and what was put in it may go at once.
func TestP13_4MarkOfThisTransaction(t *testing.T) {
	g := groundOf(t, 1, 1)
	for seq := 1; seq <= 20; seq++ {
		is(t, "Put", g.put(0, seq, fmt.Sprint("r", seq)), api.OK)
		is(t, "Put of the next one", g.put(0, seq+1, "next"), api.ErrCacheFull)
		is(t, "Raise", g.raise(0, seq), api.OK)
		g.has(0, seq, fmt.Sprint("r", seq))
	}
	is(t, "the blocks written", len(g.x.Blocks()), 4)
	g.commit()
}

// TestP13_4Stamp: the transaction's number, in each of several.
func TestP13_4Stamp(t *testing.T) {
	g := groundOf(t, 1, 5)
	for seq := 2; seq <= 6; seq++ {
		is(t, "Seq", g.x.Seq(), seq)
		is(t, "Put", g.put(0, seq, "x"), api.OK)
		list, _ := g.all()
		is(t, "the stamp", list[seq-2].Stamp, seq)
		g.commit()
	}
	is(t, "All", g.listed(), "0/2/2/x 0/3/3/x 0/4/4/x 0/5/5/x 0/6/6/x ")
}

// TestP13_4TheWholeCache: sixty-four slots, taken in their order, then given up in that of their stamps.
func TestP13_4TheWholeCache(t *testing.T) {
	g := groundOf(t, 8, 64)
	for i := range 64 {
		is(t, "Put", g.put(i%8, 1+i/8, text(1+i)), api.OK)
		g.in(i, i%8, 1+i/8, text(1+i))
		if i%5 == 4 {
			g.commit()
		}
	}
	is(t, "Put", g.put(3, 9, "new"), api.ErrCacheFull)
	g.commit()
	for c := 7; c >= 0; c-- {
		is(t, "Raise", g.raise(c, 8), api.OK)
	}
	g.commit()
	for i := range 64 {
		is(t, "Put", g.put(i%8, 9+i/8, "new"), api.OK)
		g.in(i, i%8, 9+i/8, "new")
		g.has(i%8, 1+i/8, "")
		if i%5 == 4 {
			g.commit()
		}
	}
	is(t, "Put", g.put(3, 17, "new"), api.ErrCacheFull)
}

// TestP13_4NothingWithAnError: no block is written, the ledger has the same bytes.
func TestP13_4NothingWithAnError(t *testing.T) {
	g := begun(t, true)
	is(t, "Raise", g.raise(1, 1), api.OK)
	is(t, "Put", g.put(1, 2, "x"), api.OK)
	g.commit()
	was := g.seen()
	for _, c := range []struct {
		client, seq int
		reply       string
		want        api.Errno
	}{
		{-1, 1, "x", api.ErrNoClient}, {2, 1, "x", api.ErrNoClient}, {0, 0, "x", api.ErrArg}, {0, 3, "", api.ErrArg},
		{1, 1, "x", api.ErrOld}, {1, 2, "x", api.ErrKept}, {0, 1, "x", api.ErrKept}, {0, 2, "x", api.ErrCacheFull}, {1, 3, "x", api.ErrCacheFull},
	} {
		is(t, "Put", g.put(c.client, c.seq, c.reply), c.want)
		is(t, "the ledger", bytes.Equal(g.seen(), was), true)
		is(t, "blocks written", len(g.x.Blocks()), 0)
	}
}
