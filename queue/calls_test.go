package queue_test

import (
	"math"
	"slices"
	"testing"

	"annex/api"
	"annex/queue"
)

// TestP14_1Numbers: a queue just if both numbers are 1 to 64.
func TestP14_1Numbers(t *testing.T) {
	numbers := []int{math.MinInt, math.MinInt32, -64, 1 << 32, 1<<32 + 1, 1<<62 + 1, math.MaxInt32, math.MaxInt}
	for n := -3; n <= 130; n++ {
		numbers = append(numbers, n)
	}
	for _, clients := range numbers {
		for _, places := range numbers {
			want := clients >= 1 && clients <= 64 && places >= 1 && places <= 64
			if got := queue.New[int](clients, places) != nil; got != want {
				t.Fatalf("New(%d, %d): a queue: %v, want %v", clients, places, got, want)
			}
		}
	}
}

// TestP14_1Room: it is empty, has just these clients, and each has just these places, whatever the others have.
func TestP14_1Room(t *testing.T) {
	for clients := 1; clients <= 64; clients++ {
		for _, places := range []int{1, 2, 3, 63, 64} {
			q := queue.New[int](clients, places)
			is(t, "Total", q.Total(), 0)
			for n := range places {
				for c := range clients {
					is(t, "Len ahead", q.Len(c), n)
					is(t, "Push", q.Push(c, n), api.OK)
				}
			}
			for c := range clients {
				is(t, "Push beyond the places", q.Push(c, 0), api.ErrQueueFull)
			}
			is(t, "Push beyond the clients", q.Push(clients, 0), api.ErrArg)
			is(t, "Total", q.Total(), clients*places)
		}
	}
}

// TestP14_2NoClient: ErrArg, also where all places are taken, and nothing changes.
func TestP14_2NoClient(t *testing.T) {
	for _, s := range sizes() {
		g := groundOf(t, s[0], s[1])
		for range 2 {
			for _, c := range noClients(s[0]) {
				if c >= 0 && c < s[0] {
					continue
				}
				is(t, "Push", g.push(c), api.ErrArg)
			}
			g.holds()
			g.fill()
		}
	}
}

// TestP14_2Full: the place that Pop makes free is taken by one, at the end, and by no second one.
func TestP14_2Full(t *testing.T) {
	for _, s := range sizes() {
		g := groundOf(t, s[0], s[1])
		g.fill()
		for range 3*s[1] + 2 {
			c := g.pop()
			is(t, "Push into the free place", g.push(c), api.OK)
			is(t, "Push behind it", g.push(c), api.ErrQueueFull)
			all := g.q.Each(c)
			is(t, "the last one", all[len(all)-1], g.pushed-1)
		}
		g.holds()
	}
}

// TestP14_2OneIsFull: the others' places are their own.
func TestP14_2OneIsFull(t *testing.T) {
	g := groundOf(t, 3, 2)
	is(t, "Push", g.push(1), api.OK)
	is(t, "Push", g.push(1), api.OK)
	is(t, "Push", g.push(1), api.ErrQueueFull)
	is(t, "Push of another", g.push(0), api.OK)
	is(t, "Push of another", g.push(2), api.OK)
	g.holds()
	g.pops(0, 1, 2, 1, -1)
}

// TestP14_3Nothing: a Pop of nothing answers zero values, and leaves the turn as it was.
func TestP14_3Nothing(t *testing.T) {
	for _, s := range sizes() {
		for last := range s[0] {
			g := groundOf(t, s[0], s[1])
			g.pops(-1, -1)
			g.push(last)
			g.pops(last, -1, -1, -1)
			g.holds()
			for c := range s[0] {
				g.push(c)
			}
			g.pops((last + 1) % s[0])
		}
	}
	words := queue.New[string](2, 1)
	words.Push(1, "a")
	for _, want := range []string{"a", ""} {
		c, v, ok := words.Pop()
		is(t, "Pop's text", v, want)
		is(t, "Pop's client", c == 1, ok)
	}
}

// TestP14_3FromZeroOn: as long as none was served, client 0 is asked first, whoever pushed first.
func TestP14_3FromZeroOn(t *testing.T) {
	g := groundOf(t, 4, 2)
	g.push(3)
	g.push(2)
	g.push(3)
	g.pop()
	is(t, "the first one's client", g.history[len(g.history)-1].item, item{2, 2})
	g = groundOf(t, 4, 1)
	for c := 3; c >= 0; c-- {
		g.push(c)
	}
	g.pops(0, 1, 2, 3, -1)
}

// TestP14_3EveryTurn: all pairs of the client served last and of a set of those that wait.
func TestP14_3EveryTurn(t *testing.T) {
	const clients = 6
	for last := range clients {
		for set := range 1 << clients {
			g := groundOf(t, clients, 1)
			g.push(last)
			g.pops(last)
			for c := range clients {
				if set>>c&1 == 1 {
					g.push(c)
				}
			}
			for g.pop() >= 0 {
				g.holds()
			}
		}
	}
}

// TestP14_3OneServedAnew: who has just been served waits for all others, and is served again where it is alone.
func TestP14_3OneServedAnew(t *testing.T) {
	g := groundOf(t, 3, 3)
	g.push(1)
	g.push(1)
	g.push(1)
	g.pops(1, 1)
	g.push(0)
	g.pops(0, 1)
	g.push(1)
	g.push(2)
	g.pops(2, 1, -1)
}

// TestP14_4NoClient: no client has nothing waiting, whoever else has.
func TestP14_4NoClient(t *testing.T) {
	for _, s := range sizes() {
		g := groundOf(t, s[0], s[1])
		g.fill()
		for _, c := range noClients(s[0]) {
			if c >= 0 && c < s[0] {
				continue
			}
			is(t, "Len", g.q.Len(c), 0)
			is(t, "how many Each has", len(g.q.Each(c)), 0)
		}
	}
}

// TestP14_4NothingChanges: looks between the calls leave all answers as they would be without.
func TestP14_4NothingChanges(t *testing.T) {
	for _, s := range sizes() {
		looked, plain := groundOf(t, s[0], s[1]), groundOf(t, s[0], s[1])
		for i := range 4 * s[0] * min(s[1], 8) {
			looked.holds()
			if i%3 == 2 {
				is(t, "Pop", looked.pop(), plain.pop())
			} else {
				is(t, "Push", looked.push(i*i%s[0]), plain.push(i*i%s[0]))
			}
			looked.holds()
			looked.holds()
		}
		is(t, "what happened", slices.Equal(looked.history, plain.history), true)
	}
}
