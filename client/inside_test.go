package client

import (
	"testing"

	"annex/api"
	"annex/msg"
)

func made() *Client { return New(1, 2, api.Params{Min: 2, First: 8, Max: 64}) }

// answers lets a reply come to what a client has sent last.
func answers(t *testing.T, c *Client, p api.Reply) {
	t.Helper()
	list := c.Waiting()
	p.Client, p.Seq = 1, list[len(list)-1].Seq
	b, code := msg.EncodeReply(p)
	if code != api.OK {
		t.Fatalf("EncodeReply(%+v): %d", p, code)
	}
	c.Receive(0, b)
}

// TestP19_3OtherError: a Send that is refused for another reason than the window ends the call with that; here the records are bent by hand, since no play comes to such a one.
func TestP19_3OtherError(t *testing.T) {
	c := made()
	c.table[0] = &record{id: 0, epoch: 1, path: "/"}
	n, code := c.Start(0, api.Call{Op: api.Create, Name: "a"})
	list := c.Results()
	if n != 1 || code != api.OK || len(list) != 1 || list[0].Call != 1 || list[0].Op != api.Create || list[0].Status != api.ErrField || list[0].Attr != (api.Attr{}) || list[0].Handle != 0 {
		t.Fatalf("Start: %d, %d; Results: %+v", n, code, list)
	}
	if len(c.Flying()) != 0 || len(c.Take()) != 0 || len(c.Handles()) != 1 {
		t.Fatalf("%v fly", c.Flying())
	}

	c.table[1] = &record{id: 256, path: "no path"}
	c.Start(0, api.Call{Op: api.Getattr, H: 1})
	c.Start(0, api.Call{Op: api.Lookup, Path: "/"})
	first := c.Waiting()[0].Seq
	answers(t, c, api.Reply{Epoch: 1, Op: api.Lookup, Status: api.ErrNoEnt})
	c.Start(0, api.Call{Op: api.Lookup, Path: "/b"}) // in the row
	c.Results()
	b, _ := msg.EncodeReply(api.Reply{Client: 1, Seq: first, Epoch: 1, Op: api.Getattr, Status: api.ErrEpoch})
	c.Receive(0, b)
	list = c.Results()
	if len(list) != 1 || list[0].Call != 2 || list[0].Op != api.Getattr || list[0].Status != api.ErrField {
		t.Fatalf("Results: %+v", list)
	}
	if list := c.Flying(); len(list) != 1 || list[0] != 4 || len(c.Waiting()) != 1 {
		t.Fatalf("%v fly, %+v", list, c.Waiting())
	}
}

// TestP19_3OtherErrorAhead: one that ends so does not hold up those behind it in the row, and is itself not held up by a closed window, since Send judges the request first.
func TestP19_3OtherErrorAhead(t *testing.T) {
	c := New(1, 3, api.Params{Min: 2, First: 8, Max: 64})
	c.table[0] = &record{id: 256, epoch: 1, path: "no path"}
	c.Start(0, api.Call{Op: api.Lookup, Path: "/a"})
	c.Start(0, api.Call{Op: api.Getattr})
	c.Start(0, api.Call{Op: api.Lookup, Path: "/b"})
	for _, p := range []api.Reply{
		{Seq: 2, Epoch: 2, Op: api.Getattr, Status: api.ErrEpoch},
		{Seq: 3, Epoch: 2, Op: api.Lookup, Status: api.ErrEpoch},
		{Seq: 1, Epoch: 2, Op: api.Lookup, Status: api.ErrNoEnt},
	} {
		p.Client = 1
		b, _ := msg.EncodeReply(p)
		c.Receive(5, b)
	}
	list := c.Results()
	if len(list) != 2 || list[0].Call != 2 || list[0].Status != api.ErrField || list[1].Call != 1 {
		t.Fatalf("Results: %+v", list)
	}
	if f := c.Flying(); len(f) != 1 || f[0] != 3 || len(c.Waiting()) != 1 || c.Waiting()[0].Seq != 4 {
		t.Fatalf("%v fly, %+v", f, c.Waiting())
	}
	c.Start(6, api.Call{Op: api.Getattr})
	if list := c.Results(); len(list) != 1 || list[0].Call != 4 || list[0].Status != api.ErrField || c.Waiting()[0].Seq != 4 {
		t.Fatalf("Results: %+v", list)
	}
}

// TestP19_3OtherErrorBetween: those behind it in the row are sent in the same moment.
func TestP19_3OtherErrorBetween(t *testing.T) {
	c := New(1, 4, api.Params{Min: 2, First: 8, Max: 64})
	c.table[0] = &record{id: 0, epoch: 1, path: "/"}
	answer := func(seq int) {
		b, _ := msg.EncodeReply(api.Reply{Client: 1, Seq: seq, Epoch: 1, Op: api.Lookup, Status: api.ErrNoEnt})
		c.Receive(0, b)
	}
	for range 4 {
		c.Start(0, api.Call{Op: api.Lookup, Path: "/"})
	}
	for _, seq := range []int{2, 3, 4} {
		answer(seq)
	}
	c.Start(0, api.Call{Op: api.Lookup, Path: "/a"})
	c.Start(0, api.Call{Op: api.Getattr})
	c.Start(0, api.Call{Op: api.Lookup, Path: "/b"})
	answer(1)
	list := c.Results()
	if len(list) != 5 || list[4].Call != 6 || list[4].Status != api.ErrField {
		t.Fatalf("Results: %+v", list)
	}
	if len(c.row) != 0 || len(c.Waiting()) != 2 || c.Wires(5)[0] != 5 || c.Wires(7)[0] != 6 {
		t.Fatalf("%d in the row, %+v", len(c.row), c.Waiting())
	}
}

// sound asks that a client keeps what it needs and nothing behind the ends of its lists, and that each call that flies has either just one wire request outstanding or stands in the row.
func sound(t *testing.T, c *Client) {
	t.Helper()
	for _, list := range [][]*flight{c.flying, c.row} {
		for _, f := range list[len(list):cap(list)] {
			if f != nil {
				t.Fatalf("the call %d stands behind a list's end", f.number)
			}
		}
	}
	inRow := map[*flight]int{}
	for _, f := range c.row {
		inRow[f]++
	}
	outstanding := map[int]int{}
	for _, o := range c.Waiting() {
		outstanding[o.Seq] = 1
	}
	for _, f := range c.flying {
		sum := inRow[f]
		for _, seq := range f.wires {
			sum += outstanding[seq]
		}
		if sum != 1 {
			t.Fatalf("the call %d stands in the row %d times, of %v outstanding are %+v", f.number, inRow[f], f.wires, c.Waiting())
		}
	}
	if len(c.row) > len(c.flying) || len(c.Waiting())+len(c.row) != len(c.flying) {
		t.Fatalf("%d fly, %d in the row, %d outstanding", len(c.flying), len(c.row), len(c.Waiting()))
	}
}

// TestP19_3EitherOr: behind each call of a long story.
func TestP19_3EitherOr(t *testing.T) {
	c := New(1, 5, api.Params{Min: 2, First: 8, Max: 64})
	ops := map[int]int{}
	for now := range 5000 {
		if now%3 > 0 {
			c.Start(now, api.Call{Op: api.Lookup, Path: "/a"})
		} else {
			c.Start(now, api.Call{Op: api.Rename, Name: "x", Name2: "y", H2: now % 4})
		}
		sound(t, c)
		for _, b := range c.Take() {
			r, _ := msg.DecodeRequest(b)
			ops[r.Seq] = r.Op
		}
		list := c.Waiting()
		if len(list) == 0 || now%2 == 0 {
			continue
		}
		o := list[now*now%11%len(list)]
		p := api.Reply{Client: 1, Seq: o.Seq, Epoch: 1 + now/40, Op: ops[o.Seq]}
		switch {
		case now%9 == 0:
			p.Status = api.ErrEpoch
		case p.Op == api.Lookup:
			p.Attr = api.Attr{Id: 256, Kind: api.Dir}
		}
		b, _ := msg.EncodeReply(p)
		c.Receive(now, b)
		sound(t, c)
		c.Close(now % 64)
		sound(t, c)
		c.Results()
	}
	if c.begun < 500 {
		t.Fatalf("a poor story: %d calls", c.begun)
	}
}
