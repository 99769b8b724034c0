package alarm_test

import (
	"cmp"
	"math"
	"math/rand"
	"slices"
	"testing"

	"annex/alarm"
)

// told is a second telling of the chapter: the keys and their times, and nothing else.
type told[K cmp.Ordered] map[K]int

// inOrder are all keys, those ahead first.
func (w told[K]) inOrder() []K {
	var list []K
	for k := range w {
		list = append(list, k)
	}
	slices.SortFunc(list, func(a, b K) int {
		if w[a] != w[b] {
			return cmp.Compare(w[a], w[b])
		}
		return cmp.Compare(a, b)
	})
	return list
}

// due takes out all that are not later than now.
func (w told[K]) due(now int) []K {
	list := w.inOrder()
	for i, k := range list {
		if w[k] > now {
			return list[:i]
		}
		delete(w, k)
	}
	return list
}

// ground is an alarm, and what the second telling says of it.
type ground[K cmp.Ordered] struct {
	t   *testing.T
	a   *alarm.Alarm[K]
	now told[K]
}

func groundOf[K cmp.Ordered](t *testing.T) *ground[K] {
	t.Helper()
	return &ground[K]{t: t, a: alarm.New[K](), now: told[K]{}}
}

func (g *ground[K]) set(k K, at int) {
	g.a.Set(k, at)
	g.now[k] = at
}

func (g *ground[K]) cancel(k K) {
	g.t.Helper()
	_, ok := g.now[k]
	is(g.t, "Cancel", g.a.Cancel(k), ok)
	delete(g.now, k)
}

func (g *ground[K]) due(now int) {
	g.t.Helper()
	want := g.now.due(now)
	if got := g.a.Due(now); !slices.Equal(got, want) {
		g.t.Fatalf("Due(%d): %v, want %v", now, got, want)
	}
}

// next asks for what Next and Len tell.
func (g *ground[K]) next() {
	g.t.Helper()
	is(g.t, "Len", g.a.Len(), len(g.now))
	var key K
	time, some := 0, len(g.now) > 0
	if some {
		key = g.now.inOrder()[0]
		time = g.now[key]
	}
	k, at, ok := g.a.Next()
	is(g.t, "Next's key", k, key)
	is(g.t, "Next's time", at, time)
	is(g.t, "whether Next has one", ok, some)
}

// holds asks for everything that can be told, of the keys given too.
func (g *ground[K]) holds(keys ...K) {
	g.t.Helper()
	g.next()
	for k := range g.now {
		g.holdsKey(k)
	}
	for _, k := range keys {
		g.holdsKey(k)
	}
}

func (g *ground[K]) holdsKey(k K) {
	g.t.Helper()
	want, there := g.now[k]
	at, ok := g.a.At(k)
	is(g.t, "At's time", at, want)
	is(g.t, "whether At has one", ok, there)
}

// drain takes all out, one time behind the other, and looks at what stays between.
func (g *ground[K]) drain() {
	g.t.Helper()
	for len(g.now) > 0 {
		at := g.now[g.now.inOrder()[0]]
		if at > math.MinInt {
			g.due(at - 1)
		}
		g.due(at)
		g.holds()
	}
	g.due(math.MaxInt)
	g.next()
}

// byChance does so many calls on some keys and times.
func (g *ground[K]) byChance(r *rand.Rand, calls int, keys []K, times []int) {
	g.t.Helper()
	for range calls {
		k, at := keys[r.Intn(len(keys))], times[r.Intn(len(times))]
		switch r.Intn(12) {
		case 0, 1, 2:
			g.cancel(k)
		case 3:
			g.due(min(at, times[r.Intn(len(times))]))
		default:
			g.set(k, at)
		}
	}
}

// edges are times at the ends of what an int is, and around those of narrower ones.
func edges() []int {
	list := []int{-2, -1, 0, 1, 2}
	for _, n := range []int{math.MinInt, math.MaxInt, math.MinInt32, math.MaxInt32, math.MaxUint32, 1 << 62, -1 << 62} {
		list = append(list, n)
		if n > math.MinInt {
			list = append(list, n-1)
		}
		if n < math.MaxInt {
			list = append(list, n+1)
		}
	}
	slices.Sort(list)
	return list
}

// numbers are 0 to n - 1.
func numbers(n int) []int {
	list := make([]int, n)
	for i := range list {
		list[i] = i
	}
	return list
}

func is[T comparable](t *testing.T, what string, got, want T) {
	t.Helper()
	if got != want {
		t.Fatalf("%s: %v, want %v", what, got, want)
	}
}
