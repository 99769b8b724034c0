package server_test

import (
	"fmt"
	"slices"
	"testing"

	"annex/api"
)

// TestP15_12Served: whatever comes between, what waits is taken up within Clients times Places Steps.
func TestP15_12Served(t *testing.T) {
	for i, shape := range shapes() {
		for seed := range int64(4) {
			t.Run(fmt.Sprint(i, seed), func(t *testing.T) {
				t.Parallel()
				c := newChance(t, shape, 10*int64(i)+seed)
				s, _ := up(t, shape)
				steps := 0
				since := make([][]int, shape.Clients) // by clients: at which Step each came that waits
				for range 500 {
					before := s.Waits()
					c.hear(s.Receive(c.datagram()))
					now := s.Waits()
					for n := range now {
						if now[n] > before[n] {
							since[n] = append(since[n], steps)
						}
					}
					if c.r.Intn(4) > int(seed) {
						continue // so that the places fill up
					}
					c.hear(step(t, s))
					steps++
					for n, left := range s.Waits() {
						if left < now[n] {
							since[n] = since[n][1:]
						}
						for _, at := range since[n] {
							is(t, "one waits for too long", steps-at < shape.Clients*shape.Places, true)
						}
					}
				}
			})
		}
	}
}

// TestP15_12Last: with all places taken the one that came last is taken up by the last of these Steps, and no place is taken any more.
func TestP15_12Last(t *testing.T) {
	for clients := 1; clients <= 8; clients++ {
		for places := 1; places <= 8; places++ {
			shape := api.Shape{Clients: clients, Window: 8, Places: places, Cache: 64, Inodes: 4, Quota: 0, Data: 16, Journal: 27}
			s, _ := up(t, shape)
			for c := range clients {
				for seq := 1; seq <= places; seq++ {
					comes(t, s, lookup(from(c, seq, 0, 0), "/"))
				}
			}
			for n := range clients * places {
				is(t, "whose turn it is", one(t, "Step", step(t, s), n%clients).Seq, 1+n/clients)
			}
			is(t, "Waits", slices.Equal(s.Waits(), make([]int, clients)), true)
			none(t, "Step", step(t, s))
		}
	}
}
