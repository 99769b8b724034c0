package alarm_test

import (
	"math"
	"slices"
	"testing"

	"annex/alarm"
)

// TestP16_1New: no key has a time, and all calls may be made.
func TestP16_1New(t *testing.T) {
	g := groundOf[int](t)
	g.holds(edges()...)
	for _, n := range edges() {
		g.cancel(n)
		g.due(n)
	}
	g.holds(edges()...)
	words := groundOf[string](t)
	words.cancel("")
	words.due(0)
	words.holds("", "a")
}

// TestP16_1Set: each time that an int may be, for keys at the edges, the zero key too.
func TestP16_1Set(t *testing.T) {
	for _, at := range edges() {
		g := groundOf[int](t)
		for _, k := range edges() {
			g.holdsKey(k)
			g.set(k, at)
			g.holdsKey(k)
		}
		g.holds()
		g.drain()
	}
}

// TestP16_1SetAnew: the new time holds, earlier, later or the same, wherever in the midst of the others the key stands; no key is there twice.
func TestP16_1SetAnew(t *testing.T) {
	const many = 12
	for k := range many {
		for at := -1; at <= 2*many+1; at++ {
			g := groundOf[int](t)
			for other := range many {
				g.set(other, 2*other)
			}
			g.set(k, at)
			is(t, "Len", g.a.Len(), many)
			g.holds()
			g.drain()
		}
	}
}

// TestP16_1Cancel: a key goes out of the midst, once, and all others stay as they were.
func TestP16_1Cancel(t *testing.T) {
	for many := range 20 {
		for k := -1; k <= many; k++ {
			g := groundOf[int](t)
			for other := range many {
				g.set(other, (7*other)%many)
			}
			g.cancel(k)
			g.holds(k)
			g.cancel(k)
			g.holds(k)
			g.drain()
		}
	}
}

// TestP16_1Again: a key that was cancelled or due may be set again.
func TestP16_1Again(t *testing.T) {
	g := groundOf[int](t)
	for round := range 5 {
		g.set(1, round)
		g.set(2, -round)
		g.cancel(1)
		g.holds(1, 2)
		g.set(1, -round-1)
		g.holds(1, 2)
		g.due(-round)
		g.holds(1, 2)
	}
}

// TestP16_1TimeZero: a key with the time 0 has one, a key that is 0 or empty is one.
func TestP16_1TimeZero(t *testing.T) {
	g := groundOf[int](t)
	g.set(0, 0)
	g.holds(0, 1)
	g.cancel(0)
	g.holds(0)
	words := groundOf[string](t)
	words.set("", 0)
	words.holds("", "a")
	words.set("a", -1)
	words.holds("", "a")
	words.drain()
}

// TestP16_1Len: it counts keys, not calls.
func TestP16_1Len(t *testing.T) {
	a := alarm.New[int]()
	for i := range 100 {
		a.Set(i%10, i)
		is(t, "Len", a.Len(), min(i+1, 10))
	}
	for i := range 20 {
		a.Cancel(i)
		is(t, "Len", a.Len(), max(9-i, 0))
	}
}

// TestP16_2Ahead: of two keys at the edges the one with the smaller time, or the smaller key, whichever was set first.
func TestP16_2Ahead(t *testing.T) {
	for _, at := range edges() {
		for _, other := range edges() {
			for _, keys := range [][2]int{{1, 2}, {2, 1}, {-1, 1}, {math.MaxInt, math.MinInt}, {math.MinInt, math.MaxInt}, {-2, 0}} {
				g := groundOf[int](t)
				g.set(keys[0], at)
				g.set(keys[1], other)
				g.next()
				g.due(min(at, other))
				g.next()
			}
		}
	}
}

// TestP16_2ChangesNothing: looks between the calls leave all answers as they would be without.
func TestP16_2ChangesNothing(t *testing.T) {
	looked, plain := alarm.New[int](), alarm.New[int]()
	for i := range 3000 {
		for range i % 3 {
			looked.Next()
			looked.At(i % 17)
			looked.Len()
		}
		k, at := i*i%37, i*31%53
		switch i % 7 {
		case 0:
			is(t, "Cancel", looked.Cancel(k), plain.Cancel(k))
		case 1:
			is(t, "Due", slices.Equal(looked.Due(i%9), plain.Due(i%9)), true)
		default:
			looked.Set(k, at)
			plain.Set(k, at)
		}
	}
	is(t, "Due", slices.Equal(looked.Due(math.MaxInt), plain.Due(math.MaxInt)), true)
}

// TestP16_2TheOneThatGoes: when the first one goes, or becomes a later one, the second one is the first.
func TestP16_2TheOneThatGoes(t *testing.T) {
	for many := range 20 {
		cancelled, moved := groundOf[int](t), groundOf[int](t)
		for k := range many {
			cancelled.set(k, k*k%11)
			moved.set(k, k*k%11)
		}
		for range many {
			k, _, _ := cancelled.a.Next()
			cancelled.cancel(k)
			cancelled.next()
			k, at, _ := moved.a.Next()
			moved.set(k, at+100)
			moved.next()
		}
		moved.drain()
	}
}

// TestP16_3NowOrSmaller: just those whose time is not above now, at every edge; the others stay, and a second asking has none.
func TestP16_3NowOrSmaller(t *testing.T) {
	for _, now := range edges() {
		g := groundOf[int](t)
		for i, at := range edges() {
			g.set(i, at)
			g.set(-i, at)
		}
		g.due(now)
		g.holds()
		is(t, "how many are due again", len(g.a.Due(now)), 0)
		g.holds()
		g.due(math.MaxInt)
		g.holds()
	}
}

// TestP16_3ByTimeThenKey: not by the order in which they were set, whatever that is.
func TestP16_3ByTimeThenKey(t *testing.T) {
	order := numbers(7)
	permutations(order, 0, func() {
		a := alarm.New[int]()
		for _, k := range order {
			a.Set(k, -(k / 2)) // two of a time; the greater keys have the smaller times
		}
		is(t, "Due(-2)", slices.Equal(a.Due(-2), []int{6, 4, 5}), true)
		is(t, "Due(0)", slices.Equal(a.Due(0), []int{2, 3, 0, 1}), true)
	})
}

// permutations calls f with each order of what stands in list from the place i on.
func permutations(list []int, i int, f func()) {
	if i == len(list) {
		f()
		return
	}
	for j := i; j < len(list); j++ {
		list[i], list[j] = list[j], list[i]
		permutations(list, i+1, f)
		list[i], list[j] = list[j], list[i]
	}
}

// TestP16_3OneAtATime: those that stay behind a Due come in their order by later ones.
func TestP16_3OneAtATime(t *testing.T) {
	for _, step := range []int{1, 2, 7, 50} {
		g := groundOf[int](t)
		for k := range 300 {
			g.set(k, k*k%101)
		}
		for now := -step; now < 101+step; now += step {
			g.due(now)
			g.next()
		}
		is(t, "Len", g.a.Len(), 0)
	}
}
