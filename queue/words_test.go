package queue_test

import (
	"math"
	"math/rand"
	"slices"
	"testing"

	"annex/api"
	"annex/queue"
)

// item is something that waits: whose it is, and its number.
type item struct{ client, number int }

// told is a second telling of the chapter: all that waits in one row, the one that waits longest first, whosever it is.
type told struct {
	clients, places int
	row             []item
	served          int // the client that was served last; -1: none was
}

func (w *told) each(c int) []int {
	var list []int
	for _, x := range w.row {
		if x.client == c {
			list = append(list, x.number)
		}
	}
	return list
}

func (w *told) push(c, v int) api.Errno {
	switch {
	case c < 0, c > w.clients-1:
		return api.ErrArg
	case len(w.each(c)) == w.places:
		return api.ErrQueueFull
	}
	w.row = append(w.row, item{c, v})
	return api.OK
}

// pop walks the circle a client at a time, twice round.
func (w *told) pop() (int, int, bool) {
	c := w.served
	for range 2 * w.clients {
		c++
		if c == w.clients {
			c = 0
		}
		i := slices.IndexFunc(w.row, func(x item) bool { return x.client == c })
		if i < 0 {
			continue
		}
		v := w.row[i].number
		w.row = slices.Delete(slices.Clone(w.row), i, i+1)
		w.served = c
		return c, v, true
	}
	return 0, 0, false
}

// event is a Push that was taken, or a Pop that found something.
type event struct {
	isPop bool
	item
}

// ground is a queue, what the second telling says of it, and what has happened.
type ground struct {
	t       *testing.T
	q       *queue.Queue[int]
	now     told
	history []event
	pushed  int // how many Pushes there were: each brings another number
}

func groundOf(t *testing.T, clients, places int) *ground {
	t.Helper()
	g := &ground{t: t, q: queue.New[int](clients, places), now: told{clients: clients, places: places, served: -1}}
	if g.q == nil {
		t.Fatalf("New(%d, %d): nil", clients, places)
	}
	return g
}

// push lays the next number there, and answers what Push answered.
func (g *ground) push(c int) api.Errno {
	g.t.Helper()
	g.pushed++
	code := g.q.Push(c, g.pushed)
	is(g.t, "Push", code, g.now.push(c, g.pushed))
	if code == api.OK {
		g.history = append(g.history, event{false, item{c, g.pushed}})
	}
	return code
}

// pop answers whose it was; -1, if nothing waited.
func (g *ground) pop() int {
	g.t.Helper()
	c, v, ok := g.q.Pop()
	wc, wv, wok := g.now.pop()
	is(g.t, "whose Pop's is", c, wc)
	is(g.t, "what Pop's is", v, wv)
	is(g.t, "whether Pop has one", ok, wok)
	if !ok {
		return -1
	}
	g.history = append(g.history, event{true, item{c, v}})
	return c
}

// pops asks for the clients of so many Pops.
func (g *ground) pops(want ...int) {
	g.t.Helper()
	for i, c := range want {
		if got := g.pop(); got != c {
			g.t.Fatalf("Pop %d: client %d, want %d", i+1, got, c)
		}
	}
}

// holds asks for everything that can be told, of clients that are none too.
func (g *ground) holds() {
	g.t.Helper()
	is(g.t, "Total", g.q.Total(), len(g.now.row))
	for c := -2; c <= g.now.clients+1; c++ {
		want := g.now.each(c)
		is(g.t, "Len", g.q.Len(c), len(want))
		if got := g.q.Each(c); !slices.Equal(got, want) {
			g.t.Fatalf("Each(%d): %v, want %v", c, got, want)
		}
	}
}

func (g *ground) fill() {
	g.t.Helper()
	for c := range g.now.clients {
		for g.q.Len(c) < g.now.places {
			is(g.t, "Push", g.push(c), api.OK)
		}
	}
}

// byChance does so many calls; of a hundred some pushes are Pushes, and the rest Pops.
func (g *ground) byChance(r *rand.Rand, calls, pushes int) {
	g.t.Helper()
	for range calls {
		if r.Intn(100) < pushes {
			g.push(r.Intn(g.now.clients+2) - 1)
		} else {
			g.pop()
		}
	}
}

// noClients are no clients of a queue of so many.
func noClients(clients int) []int {
	return []int{-1, -2, -clients, -64, math.MinInt, clients, clients + 1, 2 * clients, 64, 65, 1 << 32, math.MaxInt - 1, math.MaxInt}
}

// sizes are clients and places: the edges, and some between.
func sizes() [][2]int {
	return [][2]int{{1, 1}, {1, 2}, {2, 1}, {2, 2}, {3, 2}, {1, 64}, {64, 1}, {64, 64}, {63, 5}, {8, 8}, {5, 63}, {7, 3}}
}

func is[T comparable](t *testing.T, what string, got, want T) {
	t.Helper()
	if got != want {
		t.Fatalf("%s: %v, want %v", what, got, want)
	}
}
