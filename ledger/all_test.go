package ledger_test

import (
	"fmt"
	"math/rand"
	"testing"

	"annex/api"
	"annex/ledger"
)

// asked is Find of the package alone.
func (g *ground) asked(c, seq int) ([]byte, bool, api.Errno) { return ledger.Find(g.x, g.l, c, seq) }

// listed writes out what All answers.
func (g *ground) listed() string {
	g.t.Helper()
	list, code := g.all()
	is(g.t, "All", code, api.OK)
	s := ""
	for _, k := range list {
		s += fmt.Sprintf("%d/%d/%d/%s ", k.Client, k.Seq, k.Stamp, k.Data)
	}
	return s
}

// TestP13_5Order: by client, then by seq, then by slot; not by stamps or contents.
func TestP13_5Order(t *testing.T) {
	g := groundOf(t, 3, 7)
	g.lay(0, head{2, 1, 1, 1}, "a")
	g.lay(1, head{0, 1, 1 << 32, 2}, "b")
	g.lay(2, head{0, 1, 3, 3}, "c")
	g.lay(3, head{1, 1, 9, 8}, "e")
	g.lay(4, head{1, 1, 9, 4}, "d")
	g.lay(6, head{0, 1, last, 1}, "f")
	is(t, "All", g.listed(), "0/3/3/c 0/4294967296/2/b 0/4611686018427387904/1/f 1/9/8/e 1/9/4/d 2/1/1/a ")
	g.layHead(3, head{})
	is(t, "All", g.listed(), "0/3/3/c 0/4294967296/2/b 0/4611686018427387904/1/f 1/9/4/d 2/1/1/a ")
	for i := range 7 {
		g.layHead(i, hollow[i%len(hollow)])
	}
	is(t, "All of empty slots", g.listed(), "")
}

// TestP13_5Stable: many of one client and seq stay by their slots.
func TestP13_5Stable(t *testing.T) {
	l := layoutOf(t, 2, 64)
	r := rand.New(rand.NewSource(135))
	for range 20 {
		w := told{2, 64, make([]byte, 512*l.LedgerLen), make([]bool, l.LedgerLen)}
		for i := range 64 {
			w.lay(i, head{uint32(r.Intn(2)), 2, uint64(r.Intn(3)), uint64(1 + r.Intn(3))}, fmt.Append(nil, i+10))
		}
		g := groundWith(t, l, w.bytes)
		list, code := g.all()
		is(t, "All", code, api.OK)
		for i := 1; i < len(list); i++ {
			a, b := list[i-1], list[i]
			if a.Client == b.Client && a.Seq == b.Seq && string(a.Data) > string(b.Data) {
				t.Fatalf("%s stands ahead of %s", a.Data, b.Data)
			}
		}
	}
}

// TestP13_5Bent: one bent slot, wherever it is, in each way.
func TestP13_5Bent(t *testing.T) {
	for n, h := range crooked {
		for i := range 4 {
			g := groundOf(t, 3, 4)
			g.lay((i+1)%4, head{2, 4, 7, 9}, "seen")
			g.layHead(i, h)
			list, code := g.all()
			is(t, fmt.Sprintf("All, way %d, slot %d", n, i), code, api.ErrLedger)
			is(t, "how many", len(list), 0)
		}
	}
}

// TestP13_5Straight: what is just not bent is told whole.
func TestP13_5Straight(t *testing.T) {
	for _, h := range straight {
		g := groundOf(t, 3, 1)
		g.layHead(0, h)
		list, code := g.all()
		is(t, "All", code, api.OK)
		is(t, "how many", len(list), 1)
		k := list[0]
		is(t, "it", head{uint32(k.Client), uint32(len(k.Data)), uint64(k.Seq), uint64(k.Stamp)}, h)
	}
}

// TestP13_5Lengths: the replies' own bytes, and not those behind them.
func TestP13_5Lengths(t *testing.T) {
	for _, n := range lengths {
		g := groundOf(t, 1, 2)
		g.lay(0, head{0, uint32(n), 2, 1}, text(n))
		g.lay(1, head{0, 1, 1, 1}, "x")
		is(t, "All", g.listed(), "0/1/1/x 0/2/1/"+text(n)+" ")
	}
}
