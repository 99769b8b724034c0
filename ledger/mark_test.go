package ledger_test

import (
	"bytes"
	"fmt"
	"math"
	"testing"

	"annex/api"
)

// heights are watermarks that may be.
var heights = []int{0, 1, 2, 255, 256, 1<<32 - 1, 1 << 32, 1<<61 + 7, last - 1, last}

// bentMarks are watermarks that may not be.
var bentMarks = []uint64{last + 1, last + 256, 1<<63 - 1, 1 << 63, 1<<63 + 5, 1<<64 - 1}

// notClients are no clients of a shape with so many.
func notClients(clients int) []int {
	return []int{math.MinInt, -1 << 61, -1 << 32, -8, -1, clients, clients + 1, 8, 9, 63, 64, 65, 1 << 32, 1 << 61, math.MaxInt}
}

// TestP13_1Format: one block of zeros, whatever was there; the slots stay.
func TestP13_1Format(t *testing.T) {
	for _, c := range []struct{ clients, cache int }{{1, 1}, {2, 3}, {8, 64}} {
		l := layoutOf(t, c.clients, c.cache)
		g := groundWith(t, l, noise(131, 512*l.LedgerLen))
		slots := bytes.Clone(g.seen()[512:])
		g.format()
		is(t, "the watermarks' block", string(g.seen()[:512]), string(make([]byte, 512)))
		is(t, "the slots are as they were", bytes.Equal(g.seen()[512:], slots), true)
		is(t, "the blocks written", fmt.Sprint(g.x.Blocks()), fmt.Sprint([]int{l.Ledger}))
		g.commit()
		for i := range c.clients {
			g.stands(i, 0)
		}
		g.format()
		is(t, "written again", fmt.Sprint(g.x.Blocks()), fmt.Sprint([]int{l.Ledger}))
	}
}

// TestP13_1AnEmptyLedger: on a device of zeros nothing is kept behind Format.
func TestP13_1AnEmptyLedger(t *testing.T) {
	for _, cache := range []int{1, 2, 64} {
		g := groundOf(t, 8, cache)
		list, code := g.all()
		is(t, "All", code, api.OK)
		is(t, "how many", len(list), 0)
		for c := range 8 {
			g.stands(c, 0)
			g.has(c, 1, "")
		}
	}
}

// TestP13_2Where: the watermarks stand one behind the other, 8 bytes each, the highest first.
func TestP13_2Where(t *testing.T) {
	g := groundOf(t, 8, 1)
	var want []byte
	for c := range 8 {
		is(t, "Raise", g.raise(c, 0x0102030405060700+c), api.OK)
		want = append(want, 1, 2, 3, 4, 5, 6, 7, byte(c))
	}
	is(t, "the block", string(g.seen()[:512]), string(append(want, make([]byte, 448)...)))
	for c := range 8 {
		g.stands(c, 0x0102030405060700+c)
	}
	g.same("Mark")
}

// TestP13_2Heights: each from each: up it is raised, else nothing is written.
func TestP13_2Heights(t *testing.T) {
	for _, clients := range []int{1, 3, 8} {
		g := groundOf(t, clients, 1)
		for c := range clients {
			for _, from := range heights {
				for _, to := range heights {
					g.layMark(c, uint64(from))
					g.commit()
					is(t, "Raise", g.raise(c, to), api.OK)
					is(t, "whether it was written", len(g.x.Blocks()) == 1, to > from)
					g.stands(c, max(from, to))
					g.same("Raise")
				}
			}
		}
	}
}

// TestP13_2AllElseAsItWas: the other watermarks, bent or not, and what stands behind them.
func TestP13_2AllElseAsItWas(t *testing.T) {
	for _, clients := range []int{1, 2, 7, 8} {
		l := layoutOf(t, clients, 2)
		for c := range clients {
			b := noise(int64(c), 512*l.LedgerLen)
			for i := range 512 {
				b[i] |= 0x80 // each other watermark is bent
			}
			clear(b[8*c : 8*c+8])
			g := groundWith(t, l, b)
			is(t, "Raise", g.raise(c, 77), api.OK)
			want := bytes.Clone(b)
			want[8*c+7] = 77
			is(t, "the ledger", bytes.Equal(g.seen(), want), true)
			for i := range clients {
				_, code := g.mark(i)
				is(t, "Mark", code == api.OK, i == c)
			}
			g.same("Raise")
		}
	}
}

// TestP13_2Bent: a bent watermark is an error for its own client alone.
func TestP13_2Bent(t *testing.T) {
	for c := range 3 {
		for _, bent := range bentMarks {
			g := groundOf(t, 3, 1)
			g.layMark(c, bent)
			g.commit()
			for i := range 3 {
				m, code := g.mark(i)
				is(t, "Mark", code == api.ErrLedger, i == c)
				is(t, "the watermark", m, 0)
				for _, ack := range []int{0, 1, last} {
					is(t, "Raise", g.raise(i, ack) == api.ErrLedger, i == c)
				}
				is(t, "Raise of what is none", g.raise(i, -1), api.ErrArg)
			}
			g.same("Raise")
			is(t, "the bent one", g.now.bytes[8*c], byte(bent>>56))
		}
	}
}

// TestP13_2Acks: those that are none, ahead of all that stands on the device.
func TestP13_2Acks(t *testing.T) {
	g := groundOf(t, 2, 1)
	for _, ack := range []int{math.MinInt, -last, -1 << 32, -1, last + 1, last + 1<<32, math.MaxInt} {
		for c := range 2 {
			is(t, "Raise", g.raise(c, ack), api.ErrArg)
			g.stands(c, 0)
		}
		for _, c := range notClients(2) {
			is(t, "Raise", g.raise(c, ack), api.ErrNoClient)
		}
	}
	is(t, "blocks written", len(g.x.Blocks()), 0)
}

// TestP13_2Clients: those that are none, for each number of clients.
func TestP13_2Clients(t *testing.T) {
	for clients := 1; clients <= 8; clients++ {
		g := groundOf(t, clients, 2)
		for c := range clients {
			is(t, "Raise", g.raise(c, c+5), api.OK)
			is(t, "Put", g.put(c, 9+c, "r") == api.OK, c < 2)
			g.stands(c, c+5)
		}
		g.commit()
		for _, c := range notClients(clients) {
			_, code := g.mark(c)
			is(t, "Mark", code, api.ErrNoClient)
			is(t, "Raise", g.raise(c, 7), api.ErrNoClient)
			_, _, code = g.find(c, 7)
			is(t, "Find", code, api.ErrNoClient)
			is(t, "Put", g.put(c, 7, "r"), api.ErrNoClient)
		}
		g.same("a call for no client")
		is(t, "blocks written", len(g.x.Blocks()), 0)
	}
}

// TestP13_2SlotsAreNotLookedAt: of a ledger whose slots are all bent.
func TestP13_2SlotsAreNotLookedAt(t *testing.T) {
	l := layoutOf(t, 3, 5)
	b := bytes.Repeat([]byte{0xff}, 512*l.LedgerLen)
	clear(b[:512])
	g := groundWith(t, l, b)
	for c := range 3 {
		is(t, "Raise", g.raise(c, 4), api.OK)
		g.stands(c, 4)
	}
	g.commit()
}
