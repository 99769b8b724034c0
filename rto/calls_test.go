package rto_test

import (
	"math"
	"math/rand"
	"sync"
	"testing"

	"annex/api"
	"annex/rto"
)

// startIs holds Start against the chapter's words.
func startIs(t *testing.T, p api.Params) {
	t.Helper()
	want, wantCode := api.Est{}, api.ErrArg
	if paramsByWords(p) {
		want, wantCode = api.Est{Rto: p.First}, api.OK
	}
	if e, code := rto.Start(p); e != want || code != wantCode {
		t.Errorf("Start(%+v) = %+v, %d, want %+v, %d", p, e, code, want, wantCode)
	}
}

// TestP17_1Edges: each of the three numbers at the bounds and off them.
func TestP17_1Edges(t *testing.T) {
	for _, least := range trips() {
		for _, first := range trips() {
			for _, most := range trips() {
				startIs(t, api.Params{Min: least, First: first, Max: most})
			}
		}
	}
}

// TestP17_1SmallNumbers: every order of three numbers, and equal ones.
func TestP17_1SmallNumbers(t *testing.T) {
	for least := -2; least < 7; least++ {
		for first := -2; first < 7; first++ {
			for most := -2; most < 7; most++ {
				startIs(t, api.Params{Min: least, First: first, Max: most})
			}
		}
	}
}

func TestP17_1AsTheWordsSay(t *testing.T) {
	for _, p := range someParams(3000) {
		is(t, "what Start knows", started(t, p), api.Est{Rto: p.First})
	}
	chance := rand.New(rand.NewSource(171))
	for range 20000 {
		startIs(t, api.Params{Min: oneBelow(chance, ticks+9), First: oneBelow(chance, ticks+9), Max: oneBelow(chance, ticks+9)})
	}
}

// nothing asks that all three calls answer zero values.
func nothing(t *testing.T, p api.Params, e api.Est, rtt int) {
	t.Helper()
	if got := rto.Sample(p, e, rtt); got != (api.Est{}) {
		t.Errorf("Sample(%+v, %+v, %d) = %+v", p, e, rtt, got)
	}
	if got := rto.Expire(p, e); got != (api.Est{}) {
		t.Errorf("Expire(%+v, %+v) = %+v", p, e, got)
	}
	if got := rto.Wait(p, e); got != 0 {
		t.Errorf("Wait(%+v, %+v) = %d", p, e, got)
	}
}

// TestP17_2Params: the estimate is one that other params would let be.
func TestP17_2Params(t *testing.T) {
	refused := 0
	for _, least := range trips() {
		for _, first := range trips() {
			for _, most := range trips() {
				p := api.Params{Min: least, First: first, Max: most}
				if paramsByWords(p) {
					continue
				}
				refused++
				for _, wait := range []int{1, least, first, most} {
					nothing(t, p, api.Est{Rto: wait}, 3)
					nothing(t, p, api.Est{S8: 40, V4: 10, Rto: wait, Shift: 1, Known: true}, 3)
				}
			}
		}
	}
	if refused < 1000 {
		t.Errorf("only %d params were tried", refused)
	}
}

// outside are the numbers of around that are none of least to most.
func outside(least, most int) []int {
	var list []int
	for _, n := range around(least, most) {
		if n < least || n > most {
			list = append(list, n)
		}
	}
	return list
}

// TestP17_2OneNumberOff: of an estimate that may be one number is put off its bounds.
func TestP17_2OneNumberOff(t *testing.T) {
	for _, p := range someParams(30) {
		for _, e := range []api.Est{{Rto: p.First}, {S8: 40, V4: 10, Rto: p.Max, Shift: 3, Known: true}, {S8: averages, V4: averages, Rto: p.Min, Shift: 20, Known: true}} {
			is(t, "whether Wait takes the estimate", rto.Wait(p, e) > 0, true)
			for _, n := range outside(0, averages) {
				nothing(t, p, api.Est{S8: n, V4: e.V4, Rto: e.Rto, Shift: e.Shift, Known: e.Known}, 3)
				nothing(t, p, api.Est{S8: e.S8, V4: n, Rto: e.Rto, Shift: e.Shift, Known: e.Known}, 3)
			}
			for _, n := range outside(p.Min, p.Max) {
				nothing(t, p, api.Est{S8: e.S8, V4: e.V4, Rto: n, Shift: e.Shift, Known: e.Known}, 3)
			}
			for _, n := range outside(0, 20) {
				nothing(t, p, api.Est{S8: e.S8, V4: e.V4, Rto: e.Rto, Shift: n, Known: e.Known}, 3)
			}
		}
	}
}

// TestP17_2Unknown: without a sample there are no averages.
func TestP17_2Unknown(t *testing.T) {
	for _, n := range []int{1, 2, 8, 40, averages - 1, averages} {
		nothing(t, small, api.Est{S8: n, Rto: 8}, 3)
		nothing(t, small, api.Est{V4: n, Rto: 8}, 3)
		nothing(t, small, api.Est{S8: n, V4: n, Rto: 8}, 3)
		is(t, "Wait with a sample", rto.Wait(small, api.Est{S8: n, Rto: 8, Known: true}), 8)
		is(t, "Wait with a sample", rto.Wait(small, api.Est{V4: n, Rto: 8, Known: true}), 8)
	}
	nothing(t, small, api.Est{}, 3)
	nothing(t, api.Params{}, api.Est{}, 3)
}

// TestP17_2EachTrip: no round trip makes it better.
func TestP17_2EachTrip(t *testing.T) {
	for _, rtt := range trips() {
		nothing(t, small, api.Est{Rto: 1}, rtt)
		nothing(t, small, api.Est{Rto: 65}, rtt)
		nothing(t, small, api.Est{Rto: 8, S8: 8 * 5}, rtt)
		nothing(t, api.Params{Min: 2, First: 65, Max: 64}, api.Est{Rto: 8}, rtt)
	}
}

func TestP17_3EachShift(t *testing.T) {
	for _, p := range someParams(60) {
		for wait := p.Min; wait <= p.Max; wait += 1 + (p.Max-p.Min)/7 {
			doubled := wait
			for shift := 0; shift <= 20; shift++ {
				want := min(doubled, p.Max)
				is(t, "Wait", rto.Wait(p, api.Est{Rto: wait, Shift: shift}), want)
				is(t, "Wait with averages", rto.Wait(p, api.Est{S8: averages, V4: 9, Rto: wait, Shift: shift, Known: true}), want)
				doubled += doubled
			}
		}
	}
}

// TestP17_3AtTheBound: doubled the wait comes just to Max, to one less, to one more.
func TestP17_3AtTheBound(t *testing.T) {
	for shift := 1; shift <= 15; shift++ {
		p := api.Params{Min: 1, First: 1, Max: 10 << shift}
		is(t, "just Max", rto.Wait(p, api.Est{Rto: 10, Shift: shift}), p.Max)
		p.Max++
		is(t, "one less", rto.Wait(p, api.Est{Rto: 10, Shift: shift}), p.Max-1)
		p.Max -= 2
		is(t, "one more", rto.Wait(p, api.Est{Rto: 10, Shift: shift}), p.Max)
	}
	is(t, "the least, doubled most often", rto.Wait(wide, api.Est{Rto: 1, Shift: 20}), ticks)
	is(t, "the least, doubled once less", rto.Wait(wide, api.Est{Rto: 1, Shift: 19}), ticks/2)
	is(t, "the greatest, doubled most often", rto.Wait(wide, api.Est{Rto: ticks, Shift: 20}), ticks)
}

// TestP17_4FirstTrip: the averages begin with it.
func TestP17_4FirstTrip(t *testing.T) {
	for _, p := range someParams(40) {
		for _, shift := range []int{0, 1, 20} {
			for _, rtt := range trips() {
				e := api.Est{Rto: p.First, Shift: shift}
				sameSample(t, p, e, rtt)
				trip := min(max(rtt, 1), ticks)
				got := rto.Sample(p, e, rtt)
				is(t, "S8", got.S8, 8*trip)
				is(t, "V4", got.V4, 2*trip)
				is(t, "Rto", got.Rto, min(max(3*trip, p.Min), p.Max))
				is(t, "Shift", got.Shift, 0)
				is(t, "Known", got.Known, true)
			}
		}
	}
}

// TestP17_4SmallNumbers: all that the divisions may leave over, trips above and below the average.
func TestP17_4SmallNumbers(t *testing.T) {
	for s8 := range 66 {
		for v4 := range 18 {
			for rtt := -1; rtt < 20; rtt++ {
				sameSample(t, wide, api.Est{S8: s8, V4: v4, Rto: 7, Known: true}, rtt)
			}
		}
	}
}

// TestP17_4TripsOffTheBounds: they count as those at the bounds.
func TestP17_4TripsOffTheBounds(t *testing.T) {
	for _, e := range edgeEsts(wide) {
		low, high := rto.Sample(wide, e, 1), rto.Sample(wide, e, ticks)
		for _, rtt := range []int{0, -1, -2, -ticks, math.MinInt + 1, math.MinInt} {
			is(t, "a trip that is too short", rto.Sample(wide, e, rtt), low)
		}
		for _, rtt := range []int{ticks + 1, 2 * ticks, 1 << 32, 1<<32 + 5, math.MaxInt - 1, math.MaxInt} {
			is(t, "a trip that is too long", rto.Sample(wide, e, rtt), high)
		}
		is(t, "whether a trip of 2 is one of 1", rto.Sample(wide, e, 2) == low, false)
		is(t, "whether a trip of one less than the most is the most", rto.Sample(wide, e, ticks-1) == high, false)
	}
}

// TestP17_4RtoAtTheBounds: what the averages come to, one less, one more, as the least and as the most.
func TestP17_4RtoAtTheBounds(t *testing.T) {
	e := api.Est{S8: 800, V4: 40, Known: true} // behind a trip of 100: S8 800, V4 30, and 130 in all
	for _, c := range []struct{ least, most, want int }{
		{1, ticks, 130}, {130, 130, 130}, {129, 131, 130},
		{131, ticks, 131}, {500, 600, 500}, {ticks, ticks, ticks},
		{1, 129, 129}, {1, 1, 1}, {2, 64, 64},
	} {
		p := api.Params{Min: c.least, First: c.least, Max: c.most}
		e.Rto = c.least
		is(t, "behind a trip of 100", rto.Sample(p, e, 100), api.Est{S8: 800, V4: 30, Rto: c.want, Known: true})
	}
}

// TestP17_4NoVariation: one tick is put on where V4 is 0, and only there.
func TestP17_4NoVariation(t *testing.T) {
	for _, r := range []int{1, 2, 5, 1000, ticks - 1, ticks} {
		got := rto.Sample(wide, api.Est{S8: 8 * r, Rto: 1, Known: true}, r)
		is(t, "V4 0", got, api.Est{S8: 8 * r, Rto: min(r+1, ticks), Known: true})
		for v4 := 1; v4 <= 3; v4++ {
			got = rto.Sample(wide, api.Est{S8: 8 * r, V4: v4, Rto: 1, Known: true}, r)
			is(t, "V4 little", got, api.Est{S8: 8 * r, V4: v4, Rto: min(r+v4, ticks), Known: true})
		}
	}
}

// TestP17_4OldRtoAndShift: the new estimate hangs on neither.
func TestP17_4OldRtoAndShift(t *testing.T) {
	for _, known := range []bool{false, true} {
		e := api.Est{Rto: 8, Known: known}
		if known {
			e.S8, e.V4 = 43, 13
		}
		want := rto.Sample(small, e, 6)
		for e.Rto = 2; e.Rto <= 64; e.Rto++ {
			for e.Shift = 0; e.Shift <= 20; e.Shift++ {
				is(t, "Sample 6", rto.Sample(small, e, 6), want)
			}
		}
	}
}

// TestP17_5EachShift: below Max it is one more, at Max it is as it was, and all else is as it was.
func TestP17_5EachShift(t *testing.T) {
	for _, p := range someParams(60) {
		for _, e := range edgeEsts(p) {
			want := e
			if rto.Wait(p, e) < p.Max {
				want.Shift++
			}
			is(t, "Expire", rto.Expire(p, e), want)
		}
	}
}

// TestP17_5AtTheBound: the wait is one less than Max, and just Max.
func TestP17_5AtTheBound(t *testing.T) {
	p := api.Params{Min: 1, First: 1, Max: 41}
	is(t, "40 of 41", rto.Expire(p, api.Est{Rto: 10, Shift: 2}), api.Est{Rto: 10, Shift: 3})
	p.Max = 40
	is(t, "40 of 40", rto.Expire(p, api.Est{Rto: 10, Shift: 2}), api.Est{Rto: 10, Shift: 2})
	p.Max = 39
	is(t, "more than 39", rto.Expire(p, api.Est{Rto: 10, Shift: 2}), api.Est{Rto: 10, Shift: 2})
	is(t, "the last doubling", rto.Expire(wide, api.Est{Rto: 1, Shift: 19}), api.Est{Rto: 1, Shift: 20})
	is(t, "behind the last doubling", rto.Expire(wide, api.Est{Rto: 1, Shift: 20}), api.Est{Rto: 1, Shift: 20})
	is(t, "a shift that is more than is needed", rto.Expire(small, api.Est{Rto: 8, Shift: 17}), api.Est{Rto: 8, Shift: 17})
}

// TestP17_2AsTheWordsSay: P17.2 to P17.5 at the edges, and by chance.
func TestP17_2AsTheWordsSay(t *testing.T) {
	for _, p := range someParams(14) {
		for _, e := range edgeEsts(p) {
			for _, rtt := range []int{math.MinInt, 0, 1, 2, ticks - 1, ticks, ticks + 1, math.MaxInt} {
				same(t, p, e, rtt)
			}
		}
	}
	chance := rand.New(rand.NewSource(172))
	for _, p := range someParams(3000) {
		for range 20 {
			e := estByChance(chance, p)
			same(t, p, e, oneBelow(chance, ticks+9)-4)
			same(t, paramsByChance(chance), e, 5)
		}
	}
}

// TestP17_2Beside: what is asked meanwhile, by others too, shows in no answer.
func TestP17_2Beside(t *testing.T) {
	var all sync.WaitGroup
	for i, p := range someParams(8) {
		all.Go(func() {
			chance := rand.New(rand.NewSource(int64(i)))
			for range 500 {
				same(t, p, estByChance(chance, p), oneBelow(chance, ticks))
				startIs(t, p)
			}
		})
	}
	all.Wait()
}
