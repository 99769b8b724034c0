package client_test

import (
	"fmt"
	"math"
	"testing"

	"annex/api"
)

// TestP19_5Handle: which operations make a handle, and what it holds.
func TestP19_5Handle(t *testing.T) {
	for _, dir := range []struct {
		h    int
		path string
	}{{0, "/"}, {2, "/a/"}} {
		for _, k := range goodCalls(dir.h, 1) {
			g := table(t, 1)
			g.starts(0, k)
			g.answer(0, g.one(), 4, 777)
			list := g.c.Handles()
			switch k.Op {
			case api.Lookup:
				is(t, "the handle", list[3], api.Handle{No: 3, Id: 777, Epoch: 4, Path: k.Path})
			case api.Create, api.Mkdir:
				is(t, "the handle", list[3], api.Handle{No: 3, Id: 777, Epoch: 4, Path: dir.path + k.Name})
			default:
				is(t, "how many handles there are", len(list), 3)
			}
		}
	}
}

// TestP19_5Epoch: the handle's epoch is the reply's, not E: one of an earlier boot is looked up again at its first use.
func TestP19_5Epoch(t *testing.T) {
	g := table(t, 2)
	g.starts(0, look("/b"))
	g.starts(0, api.Call{Op: api.Mkdir, H: 0, Name: "d"})
	out := g.take()
	is(t, "whether it is an answer", g.gets(0, api.Reply{Client: 1, Seq: 1, Epoch: 7, Op: api.Lookup, Status: api.ErrNoEnt}), false)
	g.answer(0, out[0], 1, 300)
	g.answer(0, out[1], 2, 301)
	is(t, "the handle", g.c.Handles()[3], api.Handle{No: 3, Id: 300, Epoch: 1, Path: "/b"})
	is(t, "the handle", g.c.Handles()[4], api.Handle{No: 4, Id: 301, Epoch: 2, Path: "/d"})
	g.starts(0, api.Call{Op: api.Getattr, H: 4})
	asks(t, g.one(), api.Request{Client: 1, Seq: 6, Ack: 5, Epoch: 7, Op: api.Lookup, Path: "/d"})
}

// TestP19_5Least: the least free number, with every set of closed ones among eight.
func TestP19_5Least(t *testing.T) {
	for set := range 256 {
		g := groundOf(t, 1, 1, usual)
		for i := range 8 {
			is(t, "the number", g.handle(fmt.Sprint("/", i), 300+i, 1), i)
		}
		for i := range 8 {
			if set>>i&1 == 1 {
				g.closes(i, api.OK)
			}
		}
		for i := range 8 {
			if set>>i&1 == 1 {
				is(t, "the number", g.handle("/z", 400+i, 1), i)
			}
		}
		is(t, "the number", g.handle("/z", 500, 1), 8)
	}
}

// TestP19_5Full: with all numbers taken the Status is ErrHandles, and the Attr stays; a number that is free by the end of the call is free.
func TestP19_5Full(t *testing.T) {
	g := groundOf(t, 1, 2, usual)
	for i := range api.MaxHandles {
		is(t, "the number", g.handle(fmt.Sprint("/", i), 300+i, 1), i)
	}
	for _, k := range []api.Call{look("/z"), {Op: api.Create, H: 9, Name: "z"}, {Op: api.Mkdir, H: 63, Name: "z"}} {
		n := g.starts(0, k)
		r := g.one()
		g.answer(0, r, 1, 999)
		g.ends(api.Result{Call: n, Op: k.Op, Status: api.ErrHandles, Attr: goodReply(r, 1, 999).Attr})
		is(t, "how many handles there are", len(g.c.Handles()), api.MaxHandles)
		n = g.starts(0, k)
		g.refuse(0, g.one(), 1, api.ErrNotDir)
		g.ends(api.Result{Call: n, Op: k.Op, Status: api.ErrNotDir})
	}
	for _, k := range []api.Call{{Op: api.Getattr, H: 5}, {Op: api.Remove, H: 63, Name: "x"}, {Op: api.Rename, H: 63, Name: "x", H2: 63, Name2: "y"}} { // these make none
		n := g.starts(0, k)
		r := g.one()
		p := goodReply(r, 1, 305)
		g.answer(0, r, 1, 305)
		g.ends(api.Result{Call: n, Op: k.Op, Attr: p.Attr})
	}
	n := g.starts(0, look("/z"))
	r := g.one()
	g.closes(63, api.OK)
	g.closes(17, api.OK)
	g.answer(0, r, 1, 999)
	g.ends(api.Result{Call: n, Op: api.Lookup, Handle: 17, Attr: goodReply(r, 1, 999).Attr})
	is(t, "the last free number", g.handle("/y", 998, 1), 63)
	n = g.starts(0, look("/z"))
	r = g.one()
	g.answer(0, r, 1, 999)
	g.ends(api.Result{Call: n, Op: api.Lookup, Status: api.ErrHandles, Attr: goodReply(r, 1, 999).Attr})
}

// TestP19_6Close: the table alone loses it; a call that flies does with its records as if nothing had been, and so does one that makes a handle below them.
func TestP19_6Close(t *testing.T) {
	for _, k := range goodCalls(2, 0) {
		g := table(t, 1)
		n := g.starts(0, k)
		g.closes(2, api.OK)
		g.closes(0, api.OK)
		g.closes(2, api.ErrHandle)
		g.refuse(0, g.one(), 2, api.ErrEpoch)
		if k.Op != api.Lookup {
			r := g.one()
			is(t, "the path", r.Path, "/a")
			g.answer(0, r, 2, 257)
		}
		if k.Op == api.Rename {
			r := g.one()
			is(t, "the path", r.Path, "/")
			g.answer(0, r, 2, 256)
		}
		r := g.one()
		is(t, "the operation", r.Op, k.Op)
		g.answer(0, r, 2, 600)
		is(t, "the result", g.results()[0].Call, n)
		handle := api.Handle{No: 1, Id: 300, Epoch: 1, Path: deepPath(16)}
		switch k.Op {
		case api.Lookup:
			handles(t, g.c, api.Handle{No: 0, Id: 600, Epoch: 2, Path: k.Path}, handle)
		case api.Create, api.Mkdir:
			handles(t, g.c, api.Handle{No: 0, Id: 600, Epoch: 2, Path: "/a/" + k.Name}, handle)
		default:
			handles(t, g.c, handle)
		}
	}
}

// TestP19_6GivenAnew: a number that is given anew has a record of its own; a call of the old one keeps the old one.
func TestP19_6GivenAnew(t *testing.T) {
	g := table(t, 2)
	n := g.starts(0, api.Call{Op: api.Getattr, H: 2})
	r := g.one()
	g.closes(2, api.OK)
	is(t, "the number", g.handle("/b", 258, 3), 2)
	g.refuse(0, r, 3, api.ErrEpoch)
	r = g.one()
	is(t, "the path", r.Path, "/a")
	g.answer(0, r, 4, 257)
	is(t, "the new record", g.c.Handles()[2], api.Handle{No: 2, Id: 258, Epoch: 3, Path: "/b"})
	r = g.one()
	is(t, "the id", r.Id, 257)
	g.answer(0, r, 4, 257)
	is(t, "the result", g.results()[0].Call, n)
}

// TestP19_6None: numbers that the table does not have.
func TestP19_6None(t *testing.T) {
	g := groundOf(t, 1, 1, usual)
	for _, h := range []int{0, 1, 63} {
		g.closes(h, api.ErrHandle)
	}
	g = table(t, 1)
	for _, h := range []int{math.MinInt, -64, -1, 3, 4, 63, 64, 65, 1 << 32, math.MaxInt} {
		g.closes(h, api.ErrHandle)
	}
	for _, h := range []int{1, 0, 2} {
		g.closes(h, api.OK)
		g.closes(h, api.ErrHandle)
	}
	handles(t, g.c)
}

// TestP19_7Results: in the order in which the calls ended, each once, whenever they are asked for.
func TestP19_7Results(t *testing.T) {
	g := groundOf(t, 1, 8, usual)
	for range 8 {
		g.starts(0, look("/"))
	}
	out := g.take()
	order := []int{3, 7, 0, 1, 6, 2, 5, 4}
	for i, at := range order {
		if i == 5 {
			list := g.results()
			is(t, "how many results there are", len(list), 5)
			for k, r := range list {
				is(t, "the call", r.Call, order[k]+1)
				is(t, "the handle", r.Handle, k)
			}
			is(t, "how many results there are then", len(g.results()), 0)
		}
		g.answer(i, out[at], 1, 256)
	}
	list := g.results()
	is(t, "how many results there are", len(list), 3)
	for k, r := range list {
		is(t, "the call", r.Call, order[5+k]+1)
	}
	is(t, "how many results there are then", len(g.results()), 0)
}

// TestP19_7Looks: what is asked for changes nothing, however often.
func TestP19_7Looks(t *testing.T) {
	g := table(t, 3)
	g.starts(0, look("/"))
	g.starts(0, api.Call{Op: api.Getattr, H: 2})
	out := g.take()
	g.refuse(0, out[1], 2, api.ErrEpoch)
	for range 5 {
		g.holds()
	}
	flies(t, g.c, 4, 5)
	for _, n := range edges() {
		wires(t, g.c, n)
	}
	wires(t, g.c, 3)
	wires(t, g.c, 4, 4)
	wires(t, g.c, 5, 5, 6)
	wires(t, g.c, 6)
}

// TestP19_7Tick: a wire request is sent again by its timer, the very same, also when E has risen; what stands in the row has none.
func TestP19_7Tick(t *testing.T) {
	g := table(t, 2)
	g.starts(0, look("/"))
	g.starts(0, api.Call{Op: api.Getattr, H: 2})
	out := g.take()
	g.refuse(1, out[1], 9, api.ErrEpoch)
	g.tick(500)
	asks(t, g.one(), out[0])
	wires(t, g.c, 4, 4)
	wires(t, g.c, 5, 5)
	is(t, "Times", g.c.Waiting()[0].Times, 2)
	g.answer(501, out[0], 1, 256)
	is(t, "First", g.c.Waiting()[0], api.Waiting{Seq: 6, First: 501, Last: 501, Due: g.c.Waiting()[0].Due, Times: 1})
}
