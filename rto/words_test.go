package rto_test

import (
	"math"
	"math/big"
	"math/rand"
	"testing"

	"annex/api"
	"annex/rto"
)

const (
	ticks    = 1048576  // MaxTicks
	averages = 16777216 // the most that S8 and V4 may be
)

// small is the chapter's example.
var small = api.Params{Min: 2, First: 8, Max: 64}

// wide lets the timers' numbers be all that they may be.
var wide = api.Params{Min: 1, First: 1, Max: ticks}

func is[T comparable](t *testing.T, what string, got, want T) {
	t.Helper()
	if got != want {
		t.Errorf("%s: %v, want %v", what, got, want)
	}
}

// paramsByWords says which params may be.
func paramsByWords(p api.Params) bool {
	return 1 <= p.Min && p.Min <= p.First && p.First <= p.Max && p.Max <= ticks
}

// mayBeByWords says which estimates may be, with which params.
func mayBeByWords(p api.Params, e api.Est) bool {
	switch {
	case !paramsByWords(p):
		return false
	case e.S8 < 0, e.S8 > averages, e.V4 < 0, e.V4 > averages:
		return false
	case e.Rto < p.Min, e.Rto > p.Max, e.Shift < 0, e.Shift > 20:
		return false
	case !e.Known:
		return e.S8 == 0 && e.V4 == 0
	}
	return true
}

// calculation is in numbers without end, that round down where they are divided.
type calculation struct{ *big.Int }

func number(n int) calculation { return calculation{big.NewInt(int64(n))} }

func (a calculation) plus(b calculation) calculation {
	return calculation{new(big.Int).Add(a.Int, b.Int)}
}

func (a calculation) less(b calculation) calculation {
	return calculation{new(big.Int).Sub(a.Int, b.Int)}
}

func (a calculation) times(b calculation) calculation {
	return calculation{new(big.Int).Mul(a.Int, b.Int)}
}

func (a calculation) over(n int) calculation {
	return calculation{new(big.Int).Div(a.Int, big.NewInt(int64(n)))}
}

func (a calculation) unsigned() calculation { return calculation{new(big.Int).Abs(a.Int)} }

func (a calculation) below(b calculation) bool { return a.Cmp(b.Int) < 0 }

func (a calculation) isZero() bool { return a.Sign() == 0 }

func (a calculation) int() int { return int(a.Int64()) }

// waitByWords says P17.2 and P17.3.
func waitByWords(p api.Params, e api.Est) int {
	if !mayBeByWords(p, e) {
		return 0
	}
	wait := number(e.Rto)
	for range e.Shift {
		wait = wait.plus(wait)
	}
	if number(p.Max).below(wait) {
		return p.Max
	}
	return wait.int()
}

// sampleByWords says P17.2 and P17.4.
func sampleByWords(p api.Params, e api.Est, trip int) api.Est {
	if !mayBeByWords(p, e) {
		return api.Est{}
	}
	if trip < 1 {
		trip = 1
	}
	if trip > ticks {
		trip = ticks
	}
	rtt := number(trip)
	s8, v4 := number(8).times(rtt), number(2).times(rtt)
	if e.Known {
		m := number(e.S8).over(8)
		d := rtt.less(m).unsigned()
		s8 = number(e.S8).less(m).plus(rtt)
		v4 = number(e.V4).less(number(e.V4).over(4)).plus(d)
	}
	wait := s8.over(8).plus(v4)
	if v4.isZero() {
		wait = s8.over(8).plus(number(1))
	}
	if wait.below(number(p.Min)) {
		wait = number(p.Min)
	}
	if number(p.Max).below(wait) {
		wait = number(p.Max)
	}
	return api.Est{S8: s8.int(), V4: v4.int(), Rto: wait.int(), Shift: 0, Known: true}
}

// expireByWords says P17.2 and P17.5.
func expireByWords(p api.Params, e api.Est) api.Est {
	if !mayBeByWords(p, e) {
		return api.Est{}
	}
	if waitByWords(p, e) < p.Max {
		e.Shift++
	}
	return e
}

// same holds the three calls that take an estimate against the chapter's words.
func same(t *testing.T, p api.Params, e api.Est, rtt int) {
	t.Helper()
	if got, want := rto.Wait(p, e), waitByWords(p, e); got != want {
		t.Errorf("Wait(%+v, %+v) = %d, want %d", p, e, got, want)
	}
	if got, want := rto.Expire(p, e), expireByWords(p, e); got != want {
		t.Errorf("Expire(%+v, %+v) = %+v, want %+v", p, e, got, want)
	}
	sameSample(t, p, e, rtt)
}

func sameSample(t *testing.T, p api.Params, e api.Est, rtt int) {
	t.Helper()
	if got, want := rto.Sample(p, e, rtt), sampleByWords(p, e, rtt); got != want {
		t.Errorf("Sample(%+v, %+v, %d) = %+v, want %+v", p, e, rtt, got, want)
	}
}

// started is Start's answer for params that may be.
func started(t *testing.T, p api.Params) api.Est {
	t.Helper()
	e, code := rto.Start(p)
	if code != api.OK {
		t.Fatalf("Start(%+v): %d", p, code)
	}
	return e
}

// around are numbers at the bounds of what may be, beside them, and far off.
func around(least, most int) []int {
	return []int{
		math.MinInt, math.MinInt + 1, -1 << 32, -1<<32 + least, -most, -1, 0, 1, 2,
		least - 1, least, least + 1, (least + most) / 2, most - 1, most, most + 1, 2 * most,
		1<<31 - 1, 1 << 31, 1<<32 - 1, 1 << 32, 1<<32 + least, 1<<32 + most, math.MaxInt - 1, math.MaxInt,
	}
}

// trips are round trips at the bounds and off them.
func trips() []int { return around(1, ticks) }

// someParams are params that may be: at the edges, and by chance.
func someParams(many int) []api.Params {
	list := []api.Params{
		small, wide, {Min: 1, First: 1, Max: 1}, {Min: ticks, First: ticks, Max: ticks},
		{Min: 1, First: ticks, Max: ticks}, {Min: 1, First: 2, Max: ticks - 1}, {Min: 3, First: 3, Max: 3},
		{Min: 524288, First: 524289, Max: ticks}, {Min: 40, First: 50, Max: 60}, {Min: 1, First: 10, Max: 1000},
	}
	chance := rand.New(rand.NewSource(17))
	for len(list) < many {
		list = append(list, paramsByChance(chance))
	}
	return list
}

func paramsByChance(chance *rand.Rand) api.Params {
	var p api.Params
	p.Max = 1 + oneBelow(chance, ticks)
	p.First = 1 + oneBelow(chance, p.Max)
	p.Min = 1 + oneBelow(chance, p.First)
	return p
}

// oneBelow is a number below most, the small ones as often as the great ones.
func oneBelow(chance *rand.Rand, most int) int {
	if chance.Intn(2) == 0 {
		return chance.Intn(most)
	}
	return chance.Intn(min(most, 1<<chance.Intn(21)))
}

// estByChance may be with p.
func estByChance(chance *rand.Rand, p api.Params) api.Est {
	e := api.Est{Rto: p.Min + oneBelow(chance, p.Max-p.Min+1), Shift: chance.Intn(21)}
	if e.Known = chance.Intn(4) > 0; e.Known {
		e.S8, e.V4 = oneBelow(chance, averages+1), oneBelow(chance, averages+1)
	}
	return e
}

// edgeEsts may be with p: each of their numbers is at a bound, or beside it.
func edgeEsts(p api.Params) []api.Est {
	var list []api.Est
	for _, wait := range []int{p.Min, min(p.Min+1, p.Max), p.First, max(p.Max-1, p.Min), p.Max} {
		for _, shift := range []int{0, 1, 2, 10, 19, 20} {
			list = append(list, api.Est{Rto: wait, Shift: shift})
			for _, s8 := range []int{0, 1, 7, 8, 9, averages - 1, averages} {
				for _, v4 := range []int{0, 1, 3, 4, 5, averages - 1, averages} {
					list = append(list, api.Est{S8: s8, V4: v4, Rto: wait, Shift: shift, Known: true})
				}
			}
		}
	}
	return list
}
