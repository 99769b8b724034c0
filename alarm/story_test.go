package alarm_test

import (
	"cmp"
	"fmt"
	"math"
	"math/rand"
	"slices"
	"testing"

	"annex/alarm"
)

// choice is a call that a story may have.
type choice func(g *ground[int])

// choices are all Sets, Cancels and Dues of so many keys and times.
func choices(keys, times int) []choice {
	var list []choice
	for k := range keys {
		list = append(list, func(g *ground[int]) { g.cancel(k) })
		for at := range times {
			list = append(list, func(g *ground[int]) { g.set(k, at) })
		}
	}
	for at := range times {
		list = append(list, func(g *ground[int]) { g.due(at) })
	}
	return list
}

// TestP16_4EveryStory: all that can happen in some calls: what is told behind them is the second telling's, which knows of keys and times alone.
func TestP16_4EveryStory(t *testing.T) {
	for _, s := range [][3]int{{1, 2, 7}, {2, 2, 5}, {3, 2, 4}, {2, 3, 4}, {4, 3, 3}} {
		list, calls := choices(s[0], s[1]), s[2]
		many := 1
		for range calls {
			many *= len(list)
		}
		for n := range many {
			g := groundOf[int](t)
			for rest, i := n, 0; i < calls; i++ {
				list[rest%len(list)](g)
				rest /= len(list)
			}
			g.holds(0, 1, 2, 3, 4)
			g.drain()
		}
	}
}

// TestP16_4ByChance: long stories of many and of few keys and times.
func TestP16_4ByChance(t *testing.T) {
	for _, keys := range []int{1, 2, 3, 7, 8, 20, 300} {
		for _, times := range [][]int{{0}, numbers(2), numbers(10), numbers(1000), edges()} {
			t.Run(fmt.Sprint(keys, len(times)), func(t *testing.T) {
				t.Parallel()
				r := rand.New(rand.NewSource(int64(1000*keys + len(times))))
				g := groundOf[int](t)
				for range 100 {
					g.byChance(r, 1+r.Intn(2*keys+10), numbers(keys), times)
					g.holds(numbers(keys)...)
				}
				g.drain()
			})
		}
	}
}

// TestP16_4ManyWays: one and the same keys and times, come to in many ways, answer alike.
func TestP16_4ManyWays(t *testing.T) {
	r := rand.New(rand.NewSource(3))
	for many := range 40 {
		straight := alarm.New[int]()
		for k := range many {
			straight.Set(k, k*k%13)
		}
		want := straight.Due(math.MaxInt)
		for range 20 {
			a := alarm.New[int]()
			for range 200 {
				a.Set(r.Intn(60), r.Intn(20))
				a.Cancel(r.Intn(60))
				a.Due(r.Intn(2))
			}
			for _, k := range r.Perm(60) {
				if k < many {
					a.Set(k, k*k%13)
				} else {
					a.Cancel(k)
				}
			}
			is(t, "Len", a.Len(), many)
			is(t, "Due", slices.Equal(a.Due(math.MaxInt), want), true)
		}
	}
}

// ofType lets stories happen to keys of one type, which are given from the least one on.
func ofType[K cmp.Ordered](t *testing.T, keys ...K) {
	t.Helper()
	a := alarm.New[K]()
	for i := range keys {
		a.Set(keys[len(keys)-1-i], 5)
	}
	if got := a.Due(5); !slices.Equal(got, keys) {
		t.Fatalf("%T: Due: %v, want %v", keys[0], got, keys)
	}
	g := groundOf[K](t)
	g.holds(keys...)
	r := rand.New(rand.NewSource(int64(len(keys))))
	for range 200 {
		g.byChance(r, 5, keys, []int{math.MinInt, -1, 0, 1, math.MaxInt})
		g.holds(keys...)
	}
	g.drain()
}

type (
	little int8
	word   string
	weight float32
)

// TestP16_2AnyKey: a key may be of any type that has an order.
func TestP16_2AnyKey(t *testing.T) {
	ofType(t, math.MinInt, -1, 0, 1, math.MaxInt)
	ofType[int8](t, math.MinInt8, -1, 0, 1, math.MaxInt8)
	ofType[int16](t, math.MinInt16, -1, 0, 1, math.MaxInt16)
	ofType[int32](t, math.MinInt32, -1, 0, 1, math.MaxInt32)
	ofType[int64](t, math.MinInt64, -1, 0, 1, math.MaxInt64)
	ofType[uint](t, 0, 1, 1<<63-1, 1<<63, math.MaxUint)
	ofType[uint8](t, 0, 1, 127, 128, 255)
	ofType[uint16](t, 0, 1, 1<<15, math.MaxUint16)
	ofType[uint32](t, 0, 1, 1<<31, math.MaxUint32)
	ofType[uint64](t, 0, 1, 1<<63-1, 1<<63, math.MaxUint64)
	ofType[uintptr](t, 0, 1, 1<<63, math.MaxUint64)
	ofType[float32](t, float32(math.Inf(-1)), -1.5, 0, math.SmallestNonzeroFloat32, 1, float32(math.Inf(1)))
	ofType(t, math.Inf(-1), -math.MaxFloat64, -1, 0, math.SmallestNonzeroFloat64, 1, math.MaxFloat64, math.Inf(1))
	ofType(t, "", "\x00", "\x00a", "A", "a", "a\x00", "aa", "b", "z", "\x80", "é", "\xff", "\xff\xff")
	ofType[little](t, -128, -3, 0, 3, 127)
	ofType[word](t, "", "a", "ab", "b")
	ofType[weight](t, -2, 0, 0.5)
}

// TestP16_3Many: a great many keys, set in falling, rising and mixed order, moved and cancelled in the midst.
func TestP16_3Many(t *testing.T) {
	const many = 1 << 17
	for _, factor := range []int{1, -1, 40503} {
		a := alarm.New[int]()
		for i := range many {
			a.Set(i, i*factor&(many-1))
		}
		for i := range many {
			a.Set(i, (i*factor+many/2)&(many-1))
		}
		for i := 0; i < many; i += 2 {
			is(t, "Cancel", a.Cancel(i), true)
		}
		is(t, "Len", a.Len(), many/2)
		list := a.Due(many)
		is(t, "how many are due", len(list), many/2)
		for i, k := range list {
			if (k*factor+many/2)&(many-1) != 2*i+1 {
				t.Fatalf("factor %d: number %d is %d", factor, i, k)
			}
		}
	}
}
