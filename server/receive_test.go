package server_test

import (
	"bytes"
	"fmt"
	"math/rand"
	"slices"
	"testing"

	"annex/api"
	"annex/msg"
	"annex/server"
)

// wide has room for what the tests of Receive lay there: three clients, windows of three, two places.
var wide = api.Shape{Clients: 3, Window: 3, Places: 2, Cache: 9, Inodes: 6, Quota: 6000, Data: 36, Journal: 27}

// still is for a datagram at which nothing happens.
func still(t *testing.T, what string, s *server.Server, b []byte) {
	t.Helper()
	before := s.Waits()
	none(t, what, s.Receive(b))
	is(t, what+": Up", s.Up(), true)
	if now := s.Waits(); !slices.Equal(now, before) {
		t.Fatalf("%s: Waits %v, want %v", what, now, before)
	}
}

// TestP15_4NoRequest: what msg refuses, whatever waits and is kept.
func TestP15_4NoRequest(t *testing.T) {
	s, _ := up(t, wide)
	reply := mkdir(from(0, 1, 0, 1), 256, "d")
	comes(t, s, reply)
	out := step(t, s)
	valid := datagram(t, create(from(0, 2, 1, 1), 256, "a"))
	r := rand.New(rand.NewSource(1))
	for i := range valid {
		still(t, "cut off", s, valid[:i])
		for range 4 {
			b := bytes.Clone(valid)
			b[i] ^= byte(1 + r.Intn(255))
			still(t, "one byte changed", s, b)
		}
	}
	still(t, "nothing", s, nil)
	still(t, "one more byte", s, append(bytes.Clone(valid), 0))
	still(t, "a reply", s, out[0].Data)
	for _, n := range []int{1, 4, 12, 52, 1400, 1401, 5000} {
		b := make([]byte, n)
		r.Read(b)
		still(t, "junk", s, b)
		copy(b, "ANQ1")
		still(t, "junk that begins like a request", s, b)
	}
	comes(t, s, create(from(0, 2, 1, 1), 256, "a"))
}

// TestP15_4Clients: a client that the shape does not have.
func TestP15_4Clients(t *testing.T) {
	for clients := 1; clients <= 8; clients++ {
		shape := api.Shape{Clients: clients, Window: 1, Places: 1, Cache: 1, Inodes: 2, Quota: 0, Data: 8, Journal: 27}
		s, _ := up(t, shape)
		for c := range 8 {
			for _, r := range []api.Request{lookup(from(c, 1, 0, 0), "/"), getattr(from(c, 1, 0, 0), 256)} {
				if c >= clients {
					still(t, "no client", s, datagram(t, r))
				}
			}
			if c < clients {
				comes(t, s, lookup(from(c, 1, 0, 0), "/"))
			}
		}
		is(t, "how many clients", len(s.Waits()), clients)
	}
}

// TestP15_4Window: Seq - Ack at most Window, wherever the two stand.
func TestP15_4Window(t *testing.T) {
	for window := 1; window <= 8; window++ {
		for _, ack := range []int{0, 1, 2, 100, 1 << 40, last - 9} {
			for more := 1; more <= 9; more++ {
				shape := example
				shape.Window = window
				s, _ := up(t, shape)
				r := lookup(from(1, ack+more, ack, 0), "/")
				if more <= window {
					comes(t, s, r)
				} else {
					still(t, fmt.Sprint("window ", window, " seq ", ack+more, " ack ", ack), s, datagram(t, r))
					r = getattr(r, 256) // of another epoch, too: nothing is said of it
					r.Path = ""
					still(t, "of another epoch", s, datagram(t, r))
				}
			}
		}
	}
}

// TestP15_4Passed: at or below the watermark nothing is answered, also of another epoch, and though a reply is kept.
func TestP15_4Passed(t *testing.T) {
	s, _ := up(t, wide)
	does(t, s, lookup(from(0, 4, 3, 0), "/"))
	is(t, "Marks", slices.Equal(s.Marks(), []int{3, 0, 0}), true)
	for seq := 1; seq <= 3; seq++ {
		for ack := max(0, seq-3); ack < seq; ack++ {
			still(t, "passed", s, datagram(t, lookup(from(0, seq, ack, 0), "/")))
			still(t, "passed, of another epoch", s, datagram(t, getattr(from(0, seq, ack, 9), 256)))
		}
	}
	still(t, "client 1 is not passed", s, nil)
	comes(t, s, lookup(from(1, 3, 2, 0), "/"))
	comes(t, s, lookup(from(0, 5, 3, 0), "/"))

	s, _ = up(t, wide)
	does(t, s, lookup(from(0, 1, 0, 0), "/"))
	does(t, s, lookup(from(0, 2, 1, 0), "/"))
	is(t, "kept", len(s.Kept()), 2)
	still(t, "kept and passed", s, datagram(t, lookup(from(0, 1, 0, 0), "/")))
	is(t, "kept and not passed", len(s.Receive(datagram(t, lookup(from(0, 2, 1, 0), "/")))), 1)
}

// TestP15_4Kept: the kept datagram goes out, whatever the request of this client and seq is, and of whatever epoch.
func TestP15_4Kept(t *testing.T) {
	s, d := up(t, wide)
	comes(t, s, create(from(1, 1, 0, 1), 256, "a"))
	out := step(t, s)
	comes(t, s, lookup(from(1, 2, 0, 0), "/"))
	comes(t, s, lookup(from(1, 3, 0, 0), "/")) // now its places are taken
	again := func(s *server.Server) {
		t.Helper()
		for _, r := range []api.Request{
			create(from(1, 1, 0, 1), 256, "a"),
			create(from(1, 1, 0, 2), 256, "b"),
			lookup(from(1, 1, 0, 0), "/"),
			getattr(from(1, 1, 0, 77), 999),
		} {
			before := s.Waits()
			is(t, "the kept reply", samePackets(s.Receive(datagram(t, r)), out), true)
			is(t, "Waits", slices.Equal(s.Waits(), before), true)
		}
	}
	again(s)
	comes(t, s, lookup(from(0, 1, 0, 0), "/")) // another client has this seq, too: its reply is not the kept one
	comes(t, s, lookup(from(2, 1, 0, 0), "/"))
	d.Crash(nil)
	s = openOn(t, d)
	again(s) // it carries the epoch of the server that made it
	comes(t, s, lookup(from(0, 1, 0, 0), "/"))
}

// TestP15_4Epoch: every operation but LOOKUP is of the server's epoch, or refused.
func TestP15_4Epoch(t *testing.T) {
	third := with(imageOf(t, wide), 1, bootBytes(2))
	s := openOn(t, deviceOf(t, third))
	is(t, "Epoch", s.Epoch(), 3)
	c := newChance(t, wide, 7)
	seen := map[int]int{}
	for range 400 {
		for _, epoch := range []int{0, 1, 2, 3, 4, 5, last} {
			r := c.operation(from(c.r.Intn(3), 1+c.r.Intn(3), 0, epoch))
			seen[r.Op]++
			if r.Op == api.Lookup || epoch == 3 {
				s = openOn(t, deviceOf(t, third)) // nothing waits there yet
				comes(t, s, r)
				continue
			}
			before := s.Waits()
			refused(t, "of another epoch", s.Receive(datagram(t, r)), r, 3, api.ErrEpoch)
			is(t, "Waits", slices.Equal(s.Waits(), before), true)
		}
	}
	is(t, "how many operations", len(seen), 10)
}

// TestP15_4EpochFirst: a request of another epoch is refused so also where it waits already, and where no place is free.
func TestP15_4EpochFirst(t *testing.T) {
	s, _ := up(t, wide)
	comes(t, s, create(from(0, 1, 0, 1), 256, "a"))
	comes(t, s, create(from(0, 2, 0, 1), 256, "b"))
	for seq := 1; seq <= 3; seq++ {
		r := create(from(0, seq, 0, 2), 256, "a")
		refused(t, "of another epoch", s.Receive(datagram(t, r)), r, 1, api.ErrEpoch)
	}
	is(t, "nothing of it is kept", len(s.Kept()), 0)
	is(t, "Waits", slices.Equal(s.Waits(), []int{2, 0, 0}), true)
}

// TestP15_4Waits: a second request of a client and seq that waits is not heard, whatever it asks; and the first one is done.
func TestP15_4Waits(t *testing.T) {
	s, _ := up(t, wide)
	comes(t, s, create(from(0, 1, 0, 1), 256, "a"))
	for range 3 {
		still(t, "the same", s, datagram(t, create(from(0, 1, 0, 1), 256, "a")))
		still(t, "another one", s, datagram(t, mkdir(from(0, 1, 0, 1), 256, "b")))
		still(t, "a LOOKUP", s, datagram(t, lookup(from(0, 1, 0, 5), "/")))
	}
	comes(t, s, create(from(1, 1, 0, 1), 256, "x")) // of another client
	comes(t, s, create(from(0, 2, 1, 1), 256, "c"))
	still(t, "the places are taken, but it waits", s, datagram(t, create(from(0, 1, 0, 1), 256, "a")))
	still(t, "the places are taken, but it waits", s, datagram(t, create(from(0, 2, 1, 1), 256, "c")))
	p := one(t, "Step", step(t, s), 0)
	is(t, "what is done", p.Op, api.Create)
	r := lookup(from(0, 3, 1, 0), "/a")
	is(t, "its name", doesInTurn(t, s, r).Attr.Id, p.Attr.Id)
}

// doesInTurn is for a request behind others.
func doesInTurn(t *testing.T, s *server.Server, r api.Request) api.Reply {
	t.Helper()
	comes(t, s, r)
	for {
		list := step(t, s)
		if len(list) == 0 {
			t.Fatalf("%+v is not served", r)
		}
		if p, _ := msg.DecodeReply(list[0].Data); list[0].To == r.Client && p.Seq == r.Seq {
			return p
		}
	}
}

// TestP15_4Busy: beyond its places a client hears BUSY, and nobody else does.
func TestP15_4Busy(t *testing.T) {
	for places := 1; places <= 8; places++ {
		shape := api.Shape{Clients: 2, Window: 8, Places: places, Cache: 3, Inodes: 4, Quota: 0, Data: 16, Journal: 27}
		s, _ := up(t, shape)
		for seq := 1; seq <= 8; seq++ {
			r := getattr(from(1, seq, 0, 1), 256)
			if seq <= places {
				comes(t, s, r)
				continue
			}
			refused(t, "BUSY", s.Receive(datagram(t, r)), r, 1, api.ErrBusy)
			r = lookup(from(1, seq, 0, 9), "/")
			refused(t, "BUSY", s.Receive(datagram(t, r)), r, 1, api.ErrBusy)
			is(t, "Waits", slices.Equal(s.Waits(), []int{0, places}), true)
		}
		comes(t, s, getattr(from(0, 8, 0, 1), 256))
		step(t, s)
		step(t, s)
		is(t, "Waits", slices.Equal(s.Waits(), []int{0, places - 1}), true)
		comes(t, s, getattr(from(1, places+1, places, 1), 256))
	}
}
