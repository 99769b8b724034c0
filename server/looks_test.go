package server_test

import (
	"bytes"
	"slices"
	"testing"

	"annex/api"
)

// TestP15_6Waits: by clients, as many numbers as there are clients.
func TestP15_6Waits(t *testing.T) {
	for clients := 1; clients <= 8; clients++ {
		shape := api.Shape{Clients: clients, Window: 8, Places: 8, Cache: 64, Inodes: 4, Quota: 0, Data: 16, Journal: 27}
		s, _ := up(t, shape)
		want := make([]int, clients)
		for seq := 1; seq <= 8; seq++ {
			for c := range clients {
				if c%4 < seq {
					comes(t, s, lookup(from(c, seq, 0, 0), "/"))
					want[c]++
				}
				is(t, "Waits", slices.Equal(s.Waits(), want), true)
			}
		}
		for slices.Max(want) > 0 {
			want[step(t, s)[0].To]--
			is(t, "Waits", slices.Equal(s.Waits(), want), true)
		}
		is(t, "Marks", slices.Equal(s.Marks(), make([]int, clients)), true)
	}
}

// TestP15_6Marks: the watermarks of these clients and of no others.
func TestP15_6Marks(t *testing.T) {
	for clients := 1; clients <= 8; clients++ {
		shape := api.Shape{Clients: clients, Window: 3, Places: 1, Cache: 64, Inodes: 4, Quota: 0, Data: 16, Journal: 27}
		s, _ := up(t, shape)
		want := make([]int, clients)
		for c := range clients {
			want[c] = 10*c + 2
			does(t, s, lookup(from(c, want[c]+3, want[c], 0), "/"))
			is(t, "Marks", slices.Equal(s.Marks(), want), true)
		}
	}
}

// TestP15_6Kept: by client, then by seq.
func TestP15_6Kept(t *testing.T) {
	s, _ := up(t, wide)
	order := [][2]int{{2, 3}, {0, 2}, {1, 1}, {2, 1}, {0, 1}, {2, 2}, {0, 3}}
	out := map[[2]int][]byte{}
	for _, r := range order {
		comes(t, s, lookup(from(r[0], r[1], 0, 0), "/"))
		out[r] = step(t, s)[0].Data
	}
	is(t, "Kept", seqs(s), "[[0 1] [0 2] [0 3] [1 1] [2 1] [2 2] [2 3]]")
	for _, k := range s.Kept() {
		r := [2]int{k.Client, k.Seq}
		is(t, "its stamp", k.Stamp, 3+slices.Index(order, r))
		is(t, "its datagram", bytes.Equal(k.Data, out[r]), true)
	}
}

// TestP15_6Usage: the bytes of all files, and the inodes in use.
func TestP15_6Usage(t *testing.T) {
	s, _ := up(t, wide)
	seq := 0
	next := func() api.Request {
		seq++
		return from(0, seq, seq-1, 1)
	}
	uses := func(size, inodes int) {
		t.Helper()
		a, b := s.Usage()
		is(t, "Usage", [2]int{a, b}, [2]int{size, inodes})
	}
	uses(0, 1)
	does(t, s, create(next(), 256, "a"))
	uses(0, 2)
	does(t, s, write(next(), 257, 700, []byte("hello")))
	uses(705, 2)
	does(t, s, mkdir(next(), 256, "d"))
	uses(705, 3)
	does(t, s, create(next(), 258, "b"))
	does(t, s, write(next(), 259, 0, make([]byte, 1000)))
	uses(1705, 4)
	does(t, s, write(next(), 257, 6000, []byte("x")))
	uses(1705, 4) // above the quota
	r := next()
	r.Op, r.Id, r.Name = api.Remove, 256, "a"
	does(t, s, r)
	uses(1000, 3)
}

// TestP15_6ChangeNothing: the looks, in any order, at any time, are not seen in anything that comes behind them.
func TestP15_6ChangeNothing(t *testing.T) {
	for _, shape := range shapes() {
		c := newChance(t, shape, 5)
		quiet, d := up(t, shape)
		asked, e := up(t, shape)
		for range 150 {
			b := c.datagram()
			out := quiet.Receive(b)
			is(t, "Receive", samePackets(asked.Receive(b), out), true)
			c.hear(out)
			if c.r.Intn(2) == 0 {
				out = step(t, quiet)
				is(t, "Step", samePackets(step(t, asked), out), true)
				c.hear(out)
			}
			asked.Up()
			asked.Shape()
			asked.Epoch()
			asked.Waits()
			asked.Marks()
			asked.Kept()
			asked.Usage()
		}
		is(t, "what lasts", bytes.Equal(d.Durable(), e.Durable()), true)
		is(t, "Waits", slices.Equal(quiet.Waits(), asked.Waits()), true)
	}
}
