package rto_test

import (
	"math/rand"
	"testing"

	"annex/api"
	"annex/rto"
)

// mayBeAgain asks that e may be with p, and that what is waited is Min to Max.
func mayBeAgain(t *testing.T, what string, p api.Params, e api.Est) {
	t.Helper()
	if !mayBeByWords(p, e) {
		t.Errorf("%s with %+v: %+v", what, p, e)
	}
	if wait := rto.Wait(p, e); wait < p.Min || wait > p.Max {
		t.Errorf("%s with %+v: %+v waits %d", what, p, e, wait)
	}
}

func closed(t *testing.T, p api.Params, e api.Est, rtts ...int) {
	t.Helper()
	mayBeAgain(t, "an estimate", p, e)
	mayBeAgain(t, "Expire", p, rto.Expire(p, e))
	for _, rtt := range rtts {
		mayBeAgain(t, "Sample", p, rto.Sample(p, e, rtt))
	}
}

// TestP17_6Edges: estimates with each number at its bounds, trips at theirs.
func TestP17_6Edges(t *testing.T) {
	for _, p := range someParams(30) {
		closed(t, p, started(t, p), trips()...)
		for _, e := range edgeEsts(p) {
			closed(t, p, e, trips()...)
		}
	}
}

func TestP17_6ByChance(t *testing.T) {
	chance := rand.New(rand.NewSource(176))
	for _, p := range someParams(5000) {
		for range 20 {
			closed(t, p, estByChance(chance, p), oneBelow(chance, ticks)+1, 1, ticks)
		}
	}
}

// TestP17_6Stories: long ones from Start on, of trips of all lengths and times that run out.
func TestP17_6Stories(t *testing.T) {
	chance := rand.New(rand.NewSource(1766))
	for _, p := range someParams(200) {
		e, told := started(t, p), api.Est{Rto: p.First}
		for range 300 {
			if chance.Intn(3) == 0 {
				e, told = rto.Expire(p, e), expireByWords(p, told)
			} else {
				rtt := oneBelow(chance, ticks+9) - 3
				e, told = rto.Sample(p, e, rtt), sampleByWords(p, told, rtt)
			}
			if e != told {
				t.Fatalf("with %+v: %+v, want %+v", p, e, told)
			}
			mayBeAgain(t, "a story", p, e)
		}
	}
}

// doubles lets the time run out often, and looks at each wait.
func doubles(t *testing.T, p api.Params, e api.Est) {
	t.Helper()
	for i := range 25 {
		wait := rto.Wait(p, e)
		e = rto.Expire(p, e)
		is(t, "the next wait", rto.Wait(p, e), min(2*wait, p.Max))
		if i >= 19 {
			is(t, "the wait behind 20 Expires", rto.Wait(p, e), p.Max)
		}
	}
	for _, rtt := range []int{0, 1, 9, ticks, ticks + 1} {
		again := rto.Sample(p, e, rtt)
		is(t, "the wait behind a Sample", rto.Wait(p, again), again.Rto)
		is(t, "the Shift behind a Sample", again.Shift, 0)
	}
}

func TestP17_7Doubling(t *testing.T) {
	for _, p := range someParams(30) {
		doubles(t, p, started(t, p))
		for _, e := range edgeEsts(p) {
			doubles(t, p, e)
		}
	}
	chance := rand.New(rand.NewSource(177))
	for _, p := range someParams(2000) {
		doubles(t, p, estByChance(chance, p))
	}
}

// TestP17_7TwentyAreNeeded: from the least wait to the greatest, none less does.
func TestP17_7TwentyAreNeeded(t *testing.T) {
	e := started(t, wide)
	for n := 1; n <= 20; n++ {
		e = rto.Expire(wide, e)
		is(t, "Shift", e.Shift, n)
		is(t, "Wait", rto.Wait(wide, e), 1<<n)
	}
	is(t, "Expire behind them", rto.Expire(wide, e), e)
}

// between tells a story of trips from lo to hi, and looks at the averages behind each of them.
func between(t *testing.T, p api.Params, lo, hi int, trip func() int) {
	t.Helper()
	e := started(t, p)
	for i := range 120 {
		if i%7 == 3 {
			e = rto.Expire(p, e)
		}
		e = rto.Sample(p, e, trip())
		if smooth := e.S8 / 8; smooth < lo || smooth > hi {
			t.Fatalf("trips of %d to %d: %+v", lo, hi, e)
		}
		if e.V4 > 4*hi {
			t.Fatalf("trips of %d to %d: %+v", lo, hi, e)
		}
	}
}

func TestP17_8BetweenTheTrips(t *testing.T) {
	chance := rand.New(rand.NewSource(178))
	for _, p := range someParams(1000) {
		hi := 1 + oneBelow(chance, ticks)
		lo := 1 + oneBelow(chance, hi)
		between(t, p, lo, hi, func() int { return lo + oneBelow(chance, hi-lo+1) })
		between(t, p, lo, hi, func() int { return lo + chance.Intn(2)*(hi-lo) })
		between(t, p, 1, hi, func() int { return 1 + chance.Intn(2)*(hi-1) })
	}
}

// TestP17_8Turns: the trips are by turns as short and as long as they may be.
func TestP17_8Turns(t *testing.T) {
	for _, b := range []struct{ lo, hi int }{{1, 1}, {1, 2}, {1, 7}, {3, 11}, {1, ticks}, {ticks - 1, ticks}, {ticks, ticks}} {
		for turn := 1; turn < 12; turn++ {
			n := 0
			between(t, wide, b.lo, b.hi, func() int {
				n++
				if n/turn%2 == 0 {
					return b.lo
				}
				return b.hi
			})
		}
	}
}

// steady samples one trip over and over.
func steady(t *testing.T, p api.Params, r int) {
	t.Helper()
	e := rto.Sample(p, started(t, p), r)
	for i := 2; i <= 80; i++ {
		next := rto.Sample(p, e, r)
		if next.S8 != 8*r || next.V4 > e.V4 {
			t.Fatalf("trip %d of %d: %+v behind %+v", i, r, next, e)
		}
		if e = next; i >= 64 && e.V4 > 3 {
			t.Fatalf("trip %d of %d: %+v", i, r, e)
		}
	}
	is(t, "Rto in the end", e.Rto, min(max(r+max(e.V4, 1), p.Min), p.Max))
}

func TestP17_8Steady(t *testing.T) {
	for r := 1; r <= 3000; r++ {
		steady(t, wide, r)
	}
	for r := 3001; r < ticks; r += 997 {
		steady(t, wide, r)
	}
	for _, p := range someParams(100) {
		for _, r := range []int{1, 2, 5, 1000, ticks / 2, ticks - 1, ticks} {
			steady(t, p, r)
		}
	}
}
