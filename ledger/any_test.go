package ledger_test

import (
	"fmt"
	"math/rand"
	"testing"

	"annex/api"
)

// TestP13_4AnyLedger: images made by hand, by chance: equal pairs, gaps, slots and watermarks that are bent.
func TestP13_4AnyLedger(t *testing.T) {
	for seed := range int64(60) {
		t.Run(fmt.Sprint(seed), func(t *testing.T) {
			t.Parallel()
			r := rand.New(rand.NewSource(seed))
			for range 40 {
				clients, cache := 1+r.Intn(8), 1+r.Intn(8)
				g := groundWith(t, layoutOf(t, clients, cache), image(r, clients, cache))
				for range 12 {
					asked(g, r)
				}
				g.same("all this")
			}
		})
	}
}

// asked asks for something, of clients and seqs that the image may have.
func asked(g *ground, r *rand.Rand) {
	g.t.Helper()
	c, seq := r.Intn(g.l.Shape.Clients+1), r.Intn(8)
	switch r.Intn(5) {
	case 0:
		g.mark(c)
	case 1:
		g.raise(c, seq)
	case 2:
		g.find(c, seq)
	case 3:
		g.all()
	default:
		if len(g.x.Blocks()) > 21 {
			g.drop()
		}
		g.put(c, seq, text(1+r.Intn(1400)))
	}
}

// image is a ledger; how much of it is empty and how much is bent differs from one to the other.
func image(r *rand.Rand, clients, cache int) []byte {
	w := told{clients, cache, noise(r.Int63(), 512*(1+3*cache)), make([]bool, 1+3*cache)}
	empty, bent := r.Intn(3), r.Intn(2)*r.Intn(3)
	for i := range cache {
		h := head{uint32(r.Intn(clients)), uint32(1 + r.Intn(1400)), uint64(1 + r.Intn(6)), uint64(1 + r.Intn(4))}
		if r.Intn(6) < empty {
			h.Seq, h.Client = 0, r.Uint32()
		}
		if r.Intn(20) < bent {
			bend(r, &h, clients)
		}
		w.lay(i, h, noise(r.Int63(), 1512))
	}
	for c := range 8 {
		for i := range 8 {
			w.bytes[8*c+i] = 0
		}
		w.bytes[8*c+7] = byte(r.Intn(6))
		if r.Intn(20) < bent {
			w.bytes[8*c] = 0x40 | byte(r.Intn(256))
		}
	}
	return w.bytes
}

// bend lets one number be at an edge, or behind it.
func bend(r *rand.Rand, h *head, clients int) {
	wide := []uint64{0, 1, last - 1, last, last + 1, 1 << 63, 1<<64 - 1}
	switch r.Intn(4) {
	case 0:
		h.Client = []uint32{uint32(clients) - 1, uint32(clients), 8, 1 << 31}[r.Intn(4)]
	case 1:
		h.Length = []uint32{0, 1, 1400, 1401, 1512, 1 << 31}[r.Intn(6)]
	case 2:
		h.Seq = wide[r.Intn(7)]
	default:
		h.Stamp = wide[r.Intn(7)]
	}
}

// TestP13_4AnyBytes: of noise alone every call ends, with an error or without.
func TestP13_4AnyBytes(t *testing.T) {
	for seed := range int64(40) {
		l := layoutOf(t, 8, 3)
		g := groundWith(t, l, noise(seed, 512*l.LedgerLen))
		_, code := g.all()
		is(t, "All", code, api.ErrLedger)
		for c := range 9 {
			g.mark(c)
			g.raise(c, 5)
			g.find(c, 5)
			g.put(c, 5, "x")
		}
		g.same("all this")
	}
}
