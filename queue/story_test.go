package queue_test

import (
	"fmt"
	"math/rand"
	"slices"
	"testing"

	"annex/api"
	"annex/queue"
)

// stories lets many things happen by chance, to queues of all sizes, and then looks at what has happened.
func stories(t *testing.T, look func(t *testing.T, g *ground)) {
	for _, s := range sizes() {
		for _, pushes := range []int{20, 50, 65, 90} {
			t.Run(fmt.Sprint(s, pushes), func(t *testing.T) {
				t.Parallel()
				r := rand.New(rand.NewSource(int64(1000*s[0] + 10*s[1] + pushes)))
				g := groundOf(t, s[0], s[1])
				for range 20 {
					g.byChance(r, 50, pushes)
					g.holds()
				}
				for range 3 { // times of many and of few
					g.byChance(r, 2*s[0]*min(s[1], 8), 90)
					g.holds()
					g.byChance(r, 2*s[0]*min(s[1], 8), 15)
					g.holds()
				}
				look(t, g)
			})
		}
	}
}

// everyStory lets all that can happen in so many calls happen.
func everyStory(t *testing.T, look func(t *testing.T, g *ground)) {
	for _, s := range [][3]int{{1, 1, 12}, {1, 3, 12}, {2, 1, 9}, {2, 2, 9}, {3, 1, 8}, {3, 2, 8}, {4, 2, 6}} {
		clients, places, calls := s[0], s[1], s[2]
		choices, many := clients+1, 1
		for range calls {
			many *= choices
		}
		for n := range many {
			g := groundOf(t, clients, places)
			for rest, i := n, 0; i < calls; i++ {
				if c := rest % choices; c < clients {
					g.push(c)
				} else {
					g.pop()
				}
				rest /= choices
			}
			g.holds()
			look(t, g)
		}
	}
}

// lengths are how many wait of each client ahead of each event, and behind the last one.
func lengths(g *ground) [][]int {
	now := make([]int, g.now.clients)
	list := [][]int{slices.Clone(now)}
	for _, e := range g.history {
		if e.isPop {
			now[e.client]--
		} else {
			now[e.client]++
		}
		list = append(list, slices.Clone(now))
	}
	return list
}

// inTime: what is pushed with k others ahead of it is popped by the (k + 1) times clients -th Pop behind that.
func inTime(t *testing.T, g *ground) {
	t.Helper()
	waits := lengths(g)
	for i, e := range g.history {
		if e.isPop {
			continue
		}
		left := (waits[i][e.client] + 1) * g.now.clients
		for _, later := range g.history[i+1:] {
			if !later.isPop {
				continue
			}
			left--
			if later.item == e.item {
				break
			}
			if left == 0 {
				t.Fatalf("of client %d one waits for too long: %v", e.client, g.history)
			}
		}
	}
}

// inTurn: between two Pops of one client of which something waits all the while.
func inTurn(t *testing.T, g *ground) {
	t.Helper()
	waits := lengths(g)
	last := map[int]int{}
	for j, e := range g.history {
		if !e.isPop {
			continue
		}
		i, ok := last[e.client]
		last[e.client] = j
		if ok && isThere(waits[i+1:j+1], e.client) {
			others(t, g, waits[i+1:j+1], i, j)
		}
	}
}

// others: each other client is served at most once between the events i and j, and just once, if something of it waits all the while.
func others(t *testing.T, g *ground, waits [][]int, i, j int) {
	t.Helper()
	served := make([]int, g.now.clients)
	for _, e := range g.history[i+1 : j] {
		if e.isPop {
			served[e.client]++
		}
	}
	for c, many := range served {
		if c == g.history[j].client {
			continue
		}
		if many > 1 || many == 0 && isThere(waits, c) {
			t.Fatalf("client %d is served %d times between two of client %d: %v", c, many, g.history[j].client, g.history[:j+1])
		}
	}
}

// isThere tells whether something of the client waits all the while.
func isThere(waits [][]int, c int) bool {
	return !slices.ContainsFunc(waits, func(w []int) bool { return w[c] == 0 })
}

// inOrder: of each client the first of those that were pushed are popped, in their order, and the rest waits.
func inOrder(t *testing.T, g *ground) {
	t.Helper()
	for c := range g.now.clients {
		var in, out []int
		for _, e := range g.history {
			if e.client != c {
				continue
			}
			if e.isPop {
				out = append(out, e.number)
			} else {
				in = append(in, e.number)
			}
		}
		out = append(out, g.q.Each(c)...)
		if !slices.Equal(in, out) {
			t.Fatalf("client %d: %v went in, %v came out", c, in, out)
		}
	}
}

func TestP14_6InTimeByChance(t *testing.T) { stories(t, inTime) }

func TestP14_6InTurnByChance(t *testing.T) { stories(t, inTurn) }

func TestP14_7InOrderByChance(t *testing.T) { stories(t, inOrder) }

// TestP14_6EveryStory: everything that may happen to a small queue; the calls' answers are the second telling's.
func TestP14_6EveryStory(t *testing.T) {
	everyStory(t, func(t *testing.T, g *ground) {
		inTime(t, g)
		inTurn(t, g)
		inOrder(t, g)
	})
}

// TestP14_6TheLastPop: where all places are taken always, it is just the (k + 1) times clients -th.
func TestP14_6TheLastPop(t *testing.T) {
	for _, s := range sizes() {
		g := groundOf(t, s[0], s[1])
		g.fill()
		for round := range s[1] + 2 {
			for c := range s[0] {
				g.pops(c)
				mine := g.pushed + 1
				is(t, "Push", g.push(c), api.OK)
				if round == 1 && (c == 0 || c == s[0]-1) {
					waitsFor(t, g, item{c, mine}, s[0]*s[1])
				}
			}
		}
	}
}

// waitsFor asks that one is popped by just that Pop, all places being taken again behind each; the turn is then as it was.
func waitsFor(t *testing.T, g *ground, mine item, pops int) {
	t.Helper()
	for n := 1; n <= pops; n++ {
		c := g.pop()
		is(t, "whether it is the one", g.history[len(g.history)-1].item == mine, n == pops)
		is(t, "Push", g.push(c), api.OK)
	}
}

// TestP14_6Greedy: one who pushes at once whenever it may keeps none waiting for longer than a round.
func TestP14_6Greedy(t *testing.T) {
	for clients := 2; clients <= 64; clients++ {
		for greedy := range clients {
			g := groundOf(t, clients, 2)
			for g.push(greedy) == api.OK {
			}
			g.pops(greedy)
			modest := (greedy + clients - 1) % clients
			g.push(modest)
			if clients > 2 {
				g.push((greedy + 1) % clients)
				g.pops((greedy + 1) % clients)
			}
			for g.push(greedy) == api.OK {
			}
			g.pops(modest, greedy, greedy)
		}
	}
}

// TestP14_7LongStory: many times as many as there are places pass through, in order.
func TestP14_7LongStory(t *testing.T) {
	for _, places := range []int{1, 2, 3, 63, 64} {
		q := queue.New[int](2, places)
		in, out := 0, 0
		r := rand.New(rand.NewSource(int64(places)))
		for range 20000 {
			for range r.Intn(places + 1) {
				if q.Push(1, in) == api.OK {
					in++
				}
			}
			for range r.Intn(places + 1) {
				if _, v, ok := q.Pop(); ok {
					is(t, "Pop", v, out)
					out++
				}
			}
			is(t, "Len", q.Len(1), in-out)
		}
		is(t, "whether many have passed", out > 2000, true)
	}
}

// TestP14_7Refused: what Push refuses never comes.
func TestP14_7Refused(t *testing.T) {
	g := groundOf(t, 2, 2)
	var taken []item
	for i := range 300 {
		for _, c := range []int{0, -1, 1, 2, 1} {
			if g.push(c) == api.OK {
				taken = append(taken, item{c, g.pushed})
			}
		}
		if i%2 == 0 {
			g.pop()
		}
	}
	for g.pop() >= 0 {
	}
	var came []item
	for _, e := range g.history {
		if e.isPop {
			came = append(came, e.item)
		}
	}
	byNumber := func(a, b item) int { return a.number - b.number }
	slices.SortFunc(came, byNumber)
	is(t, "what came", slices.Equal(came, taken), true)
}
