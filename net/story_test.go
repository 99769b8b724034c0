package net_test

import (
	"fmt"
	"math/rand"
	"testing"

	"annex/api"
	"annex/net"
)

// choice is a call that a story may have.
type choice func(g *ground)

// choices are two Sends, and all that can be done to so many numbers.
func choices(numbers int) []choice {
	list := []choice{
		func(g *ground) { g.send(-1, "ab") },
		func(g *ground) { g.send(3, "") },
	}
	for no := 1; no <= numbers; no++ {
		list = append(list,
			func(g *ground) { g.take(no) },
			func(g *ground) { g.drop(no) },
			func(g *ground) { g.copy(no) },
			func(g *ground) { g.flip(no, 0, 1) },
			func(g *ground) { g.flip(no, 1, 3) },
		)
	}
	return list
}

// TestP20_8EveryStory: all that can happen in some calls; what is answered is the second telling's, which knows what was sent and which flips were done to which flight.
func TestP20_8EveryStory(t *testing.T) {
	for _, s := range [][2]int{{1, 5}, {2, 5}, {4, 4}} {
		list, calls := choices(s[0]), s[1]
		many := 1
		for range calls {
			many *= len(list)
		}
		for n := range many {
			g := groundOf(t)
			for rest, i := n, 0; i < calls; i++ {
				list[rest%len(list)](g)
				rest /= len(list)
			}
			g.holds()
			g.drain(func(many int) int { return n % many })
		}
	}
}

// TestP20_8ByChance: long stories, of few and of many that are under way.
func TestP20_8ByChance(t *testing.T) {
	for _, stay := range []int{20, 45, 60, 80} {
		for seed := range 8 {
			t.Run(fmt.Sprint(stay, seed), func(t *testing.T) {
				t.Parallel()
				r := rand.New(rand.NewSource(int64(100*stay + seed)))
				g := groundOf(t)
				for range 40 {
					g.byChance(r, 60, stay)
					g.holds()
				}
				g.drain(r.Intn)
			})
		}
	}
}

// TestP20_8ByChanceWhereFull: about the bound many are lost, and none of the others.
func TestP20_8ByChanceWhereFull(t *testing.T) {
	for seed := range 4 {
		t.Run(fmt.Sprint(seed), func(t *testing.T) {
			t.Parallel()
			r := rand.New(rand.NewSource(int64(seed)))
			g := groundOf(t)
			for range 8 {
				g.fill()
				g.byChance(r, 300, 75)
				g.holds()
			}
			g.drain(r.Intn)
		})
	}
}

// TestP20_8EachByItsOwnNumber: every datagram is another one; it comes under its own number, once, however many came ahead.
func TestP20_8EachByItsOwnNumber(t *testing.T) {
	x := net.New()
	r := rand.New(rand.NewSource(9))
	var waiting []int
	for n := 1; n <= 50000; n++ {
		is(t, "Send", x.Send(api.Packet{To: -n, Data: []byte(fmt.Sprint("datagram ", n))}), n)
		waiting = append(waiting, n)
		if len(waiting) < 1000 {
			continue
		}
		i := r.Intn(len(waiting))
		no := waiting[i]
		waiting[i] = waiting[len(waiting)-1]
		waiting = waiting[:len(waiting)-1]
		takes(t, x, no, -no, fmt.Sprint("datagram ", no), api.OK)
		takes(t, x, no, 0, "", api.ErrFlight)
	}
	is(t, "how many are under way", len(x.Under()), len(waiting))
}
