package client_test

import (
	"testing"

	"annex/api"
)

// TestP19_3Closed: while the window is closed, calls stand in the row; they leave it from the first one on, as far as it opens.
func TestP19_3Closed(t *testing.T) {
	for window := 2; window <= api.MaxWindow; window++ {
		g := groundOf(t, 1, window, usual)
		for range window {
			g.starts(0, look("/"))
		}
		out := g.take()
		for i := window - 1; i > 0; i-- { // all but the first one are answered: the ack stays
			g.answer(1, out[i], 1, 256+i)
			n := g.starts(1, look("/b"))
			wires(t, g.c, n)
			is(t, "how much goes out", len(g.take()), 0)
			is(t, "how many wait", len(g.c.Waiting()), i)
		}
		is(t, "how many fly", len(g.c.Flying()), window)
		g.answer(2, out[0], 1, 256)
		more := g.take()
		is(t, "how many go out", len(more), window-1)
		for i, r := range more {
			asks(t, r, api.Request{Client: 1, Seq: window + 1 + i, Ack: window, Epoch: 1, Op: api.Lookup, Path: "/b"})
			wires(t, g.c, window+1+i, window+1+i)
			is(t, "First", g.c.Waiting()[i].First, 2)
		}
	}
}

// TestP19_3Moment: what a call needs is found out when it leaves the row, not when it joins it: E has risen meanwhile, or its record has been looked up.
func TestP19_3Moment(t *testing.T) {
	g := table(t, 2)
	a := g.starts(0, look("/"))
	g.starts(0, look("/"))
	out := g.take()
	g.answer(0, out[1], 1, 256)
	b := g.starts(0, api.Call{Op: api.Getattr, H: 2}) // in the row: the window is closed
	is(t, "how much goes out", len(g.take()), 0)
	is(t, "whether it is an answer", g.gets(0, api.Reply{Client: 1, Seq: 1, Epoch: 2, Op: api.Lookup, Status: api.ErrNoEnt}), false)
	wires(t, g.c, b)
	g.answer(0, out[0], 1, 256)
	r := g.one()
	asks(t, r, api.Request{Client: 1, Seq: 6, Ack: 5, Epoch: 2, Op: api.Lookup, Path: "/a"})
	wires(t, g.c, a)

	// another call of the same record looks it up meanwhile
	c := g.starts(0, api.Call{Op: api.Read, H: 2, Len: 1})
	two := g.one()
	asks(t, two, api.Request{Client: 1, Seq: 7, Ack: 5, Epoch: 2, Op: api.Lookup, Path: "/a"})
	g.answer(0, two, 2, 257) // 7 is answered, 6 is not: the READ has to wait
	is(t, "how much goes out", len(g.take()), 0)
	g.answer(0, r, 2, 257)
	more := g.take()
	is(t, "how many go out", len(more), 2)
	asks(t, more[0], api.Request{Client: 1, Seq: 8, Ack: 7, Epoch: 2, Op: api.Read, Id: 257, Len: 1})
	asks(t, more[1], api.Request{Client: 1, Seq: 9, Ack: 7, Epoch: 2, Op: api.Getattr, Id: 257})
	wires(t, g.c, c, 7, 8)
	wires(t, g.c, b, 6, 9)
}

// TestP19_3Shared: a record that two calls have is one: what one of them has looked up, the other one need not.
func TestP19_3Shared(t *testing.T) {
	g := table(t, 2)
	a := g.starts(0, look("/"))
	b := g.starts(0, api.Call{Op: api.Getattr, H: 2})
	out := g.take()
	g.refuse(0, out[1], 2, api.ErrEpoch) // b in the row, behind a closed window
	g.answer(0, out[0], 1, 256)
	again := g.one()
	is(t, "the path", again.Path, "/a")
	c := g.starts(0, api.Call{Op: api.Remove, H: 2, Name: "x"})
	asks(t, g.one(), api.Request{Client: 1, Seq: 7, Ack: 5, Epoch: 2, Op: api.Lookup, Path: "/a"})
	g.answer(0, again, 2, 257)
	asks(t, g.one(), api.Request{Client: 1, Seq: 8, Ack: 6, Epoch: 2, Op: api.Getattr, Id: 257})
	is(t, "the handle's epoch", g.c.Handles()[2].Epoch, 2)
	g.refuse(0, api.Request{Client: 1, Seq: 7, Op: api.Lookup}, 2, api.ErrNoEnt) // c's own looking up ends c alone
	g.answer(0, api.Request{Client: 1, Seq: 8, Op: api.Getattr}, 2, 257)
	list := g.results()
	is(t, "how many ended", len(list), 3)
	is(t, "a", list[0].Call, a)
	is(t, "c", list[1].Call, c)
	is(t, "c's Status", list[1].Status, api.ErrStale)
	is(t, "b", list[2].Call, b)
	is(t, "b's Status", list[2].Status, api.OK)
	g.starts(0, api.Call{Op: api.Getattr, H: 2})
	is(t, "the record is known by now", g.one().Op, api.Getattr)
}

// TestP19_3Twice: a record that is named by H and by H2 is looked up again once.
func TestP19_3Twice(t *testing.T) {
	g := table(t, 1)
	n := g.starts(0, api.Call{Op: api.Rename, H: 2, Name: "x", H2: 2, Name2: "y"})
	g.refuse(0, g.one(), 2, api.ErrEpoch)
	g.answer(0, g.one(), 2, 257)
	asks(t, g.one(), api.Request{Client: 1, Seq: 6, Ack: 5, Epoch: 2, Op: api.Rename, Id: 257, Name: "x", Id2: 257, Name2: "y"})
	wires(t, g.c, n, 4, 5, 6)
}

// TestP19_3OwnRecords: two handles of one path are two records: each is looked up again for itself.
func TestP19_3OwnRecords(t *testing.T) {
	g := table(t, 1)
	is(t, "the second handle of the path", g.handle("/a", 257, 1), 3)
	g.starts(0, api.Call{Op: api.Rename, H: 3, Name: "x", H2: 2, Name2: "y"})
	g.refuse(0, g.one(), 2, api.ErrEpoch)
	g.answer(0, g.one(), 2, 257)
	is(t, "the handles' epochs", [2]int{g.c.Handles()[2].Epoch, g.c.Handles()[3].Epoch}, [2]int{1, 2})
	r := g.one()
	is(t, "the path", r.Path, "/a")
	g.answer(0, r, 2, 257)
	is(t, "the operation", g.one().Op, api.Rename)
}

// TestP19_3FirstThenSecond: H's record is looked up first, and first again when a boot is seen on the way.
func TestP19_3FirstThenSecond(t *testing.T) {
	g := table(t, 1)
	n := g.starts(0, api.Call{Op: api.Rename, H: 0, Name: "x", H2: 2, Name2: "y"})
	g.refuse(0, g.one(), 2, api.ErrEpoch)
	for e := 2; e < 20; e += 2 {
		r := g.one()
		asks(t, r, api.Request{Client: 1, Seq: e + 3, Ack: e + 2, Epoch: e, Op: api.Lookup, Path: "/"})
		g.answer(0, r, e, 256)
		r = g.one()
		asks(t, r, api.Request{Client: 1, Seq: e + 4, Ack: e + 3, Epoch: e, Op: api.Lookup, Path: "/a"})
		g.gets(0, api.Reply{Client: 1, Seq: 1, Epoch: e + 2, Op: api.Lookup, Status: api.ErrNoEnt}) // no answer, but E rises: both are old
		g.answer(0, r, e+1, 257)
		is(t, "the handles' epochs", [2]int{g.c.Handles()[0].Epoch, g.c.Handles()[2].Epoch}, [2]int{e, e + 1})
	}
	for e := 20; e < 30; e += 2 { // each reply tells of another boot: the other record is always the old one
		r := g.one()
		asks(t, r, api.Request{Client: 1, Seq: e + 3, Ack: e + 2, Epoch: e, Op: api.Lookup, Path: "/"})
		g.answer(0, r, e+1, 256)
		r = g.one()
		asks(t, r, api.Request{Client: 1, Seq: e + 4, Ack: e + 3, Epoch: e + 1, Op: api.Lookup, Path: "/a"})
		g.answer(0, r, e+2, 257)
	}
	g.answer(0, g.one(), 30, 256)
	asks(t, g.one(), api.Request{Client: 1, Seq: 34, Ack: 33, Epoch: 30, Op: api.Rename, Id: 256, Name: "x", Id2: 257, Name2: "y"})
	is(t, "how many were sent", len(g.c.Wires(n)), 31)
}

// TestP19_3NoSecond: only RENAME has a second record: the record 0, old as it is, is no matter of a call that has no H2, nor of a LOOKUP.
func TestP19_3NoSecond(t *testing.T) {
	for _, k := range goodCalls(2, 2) {
		g := table(t, 1)
		g.starts(0, api.Call{Op: api.Getattr, H: 2})
		g.refuse(0, g.one(), 9, api.ErrEpoch)
		g.answer(0, g.one(), 9, 257)
		g.answer(0, g.one(), 9, 257)
		g.starts(0, k)
		r := g.one()
		is(t, "the operation", r.Op, k.Op)
		is(t, "its path", r.Path, k.Path)
		is(t, "its epoch", r.Epoch, 9)
	}
}

// TestP19_3Behind: one that joins the row anew stands behind all others.
func TestP19_3Behind(t *testing.T) {
	g := table(t, 4)
	for range 4 {
		g.starts(0, api.Call{Op: api.Getattr, H: 2})
	}
	out := g.take()
	for _, i := range []int{2, 1, 3} {
		g.refuse(0, out[i], 2, api.ErrEpoch)
	}
	is(t, "how much goes out", len(g.take()), 0)
	g.refuse(0, out[0], 2, api.ErrEpoch)
	is(t, "how many go out", len(g.take()), 4)
	for i, n := range []int{6, 5, 7, 4} {
		wires(t, g.c, n, n, 8+i)
	}
}

// TestP19_4NoAnswer: what is none leaves all as it is; but E rises by it.
func TestP19_4NoAnswer(t *testing.T) {
	g := table(t, 2)
	n := g.starts(0, api.Call{Op: api.Getattr, H: 2})
	r := g.one()
	for i, p := range []api.Reply{
		{Client: 1, Seq: r.Seq, Epoch: 2, Op: r.Op, Status: api.ErrBusy},
		{Client: 1, Seq: r.Seq, Epoch: 3, Op: api.Read, Status: api.ErrEpoch},
		{Client: 1, Seq: r.Seq + 1, Epoch: 4, Op: r.Op, Status: api.ErrNoEnt},
		{Client: 1, Seq: 1, Epoch: 5, Op: api.Lookup, Status: api.ErrNoEnt},
		{Client: 2, Seq: r.Seq, Epoch: 99, Op: r.Op, Status: api.ErrNoEnt},
	} {
		is(t, "whether it is an answer", g.gets(i, p), false)
		is(t, "how much goes out", len(g.take()), 0)
		wires(t, g.c, n, r.Seq)
		is(t, "how many results there are", len(g.results()), 0)
	}
	for _, b := range [][]byte{nil, {}, []byte("junk"), make([]byte, api.MaxDatagram+1)} {
		is(t, "whether it is an answer", g.receive(9, b), false)
	}
	g.starts(0, look("/"))
	is(t, "the epoch of what goes out", g.one().Epoch, 5)
	g.refuse(10, r, 5, api.ErrEpoch)
	g.take()
	is(t, "whether it is an answer once more", g.gets(11, api.Reply{Client: 1, Seq: r.Seq, Epoch: 5, Op: r.Op, Status: api.ErrEpoch}), false)
	is(t, "how many were sent", len(g.c.Wires(n)), 2)
}

// TestP19_4Again: how a looking up ends: with the record's id it goes on, at each kind and size; with all else the call is stale, and the record stays as it is.
func TestP19_4Again(t *testing.T) {
	for _, k := range goodCalls(2, 0) {
		if k.Op == api.Lookup {
			continue
		}
		for _, status := range append(statuses(), api.OK, api.OK) {
			g := table(t, 1)
			n := g.starts(0, k)
			g.refuse(0, g.one(), 2, api.ErrEpoch)
			r := g.one()
			p := api.Reply{Client: 1, Seq: r.Seq, Epoch: 3, Op: r.Op, Status: status}
			if status == api.OK {
				p = goodReply(r, 3, 513) // another use of the slot
			}
			is(t, "whether it is an answer", g.gets(0, p), true)
			g.ends(api.Result{Call: n, Op: k.Op, Status: api.ErrStale})
			is(t, "how much goes out", len(g.take()), 0)
			is(t, "the handle", g.c.Handles()[2], api.Handle{No: 2, Id: 257, Epoch: 1, Path: "/a"})
			g.starts(0, k) // the next call tries it anew
			r = g.one()
			asks(t, r, api.Request{Client: 1, Seq: 6, Ack: 5, Epoch: 3, Op: api.Lookup, Path: "/a"})
			g.answer(0, r, 3, 257)
			is(t, "the handle", g.c.Handles()[2], api.Handle{No: 2, Id: 257, Epoch: 3, Path: "/a"})
		}
	}
}

// TestP19_4NotLowered: a reply of an earlier boot leaves the record's epoch, and the call is sent on as if the record were new enough, or looked up once more if it is not.
func TestP19_4NotLowered(t *testing.T) {
	g := table(t, 2)
	g.starts(0, api.Call{Op: api.Getattr, H: 2})
	g.refuse(0, g.one(), 5, api.ErrEpoch)
	g.starts(0, api.Call{Op: api.Getattr, H: 2})
	out := g.take()
	is(t, "how many go out", len(out), 2)
	g.answer(0, out[0], 5, 257)
	is(t, "the handle's epoch", g.c.Handles()[2].Epoch, 5)
	g.one()
	g.answer(0, out[1], 4, 257)
	is(t, "the handle's epoch", g.c.Handles()[2].Epoch, 5)
	is(t, "what goes out", g.one().Op, api.Getattr)

	g = table(t, 1)
	g.starts(0, api.Call{Op: api.Getattr, H: 2})
	g.refuse(0, g.one(), 5, api.ErrEpoch)
	for e := 2; e < 5; e++ { // no honest server answers so; still nothing is done with a record below E
		r := g.one()
		asks(t, r, api.Request{Client: 1, Seq: 3 + e, Ack: 2 + e, Epoch: 5, Op: api.Lookup, Path: "/a"})
		g.answer(0, r, e, 257)
		is(t, "the handle's epoch", g.c.Handles()[2].Epoch, e)
	}
	g.answer(0, g.one(), 7, 257)
	is(t, "the handle's epoch", g.c.Handles()[2].Epoch, 7)
	asks(t, g.one(), api.Request{Client: 1, Seq: 9, Ack: 8, Epoch: 7, Op: api.Getattr, Id: 257})
}

// TestP19_4Epoch: ErrEpoch never ends an operation, however often it comes, and be it without a rise of E, or to a LOOKUP; then the operation itself goes out once more.
func TestP19_4Epoch(t *testing.T) {
	for _, k := range goodCalls(2, 0) {
		g := table(t, 1)
		n := g.starts(0, k)
		for i := range 10 {
			r := g.one()
			is(t, "the operation", r.Op, k.Op)
			is(t, "the seq", r.Seq, 4+i)
			is(t, "the epoch", r.Epoch, 1)
			g.refuse(i, r, 1, api.ErrEpoch)
			is(t, "how many results there are", len(g.results()), 0)
			flies(t, g.c, n)
			is(t, "how many were sent", len(g.c.Wires(n)), 2+i)
		}
	}
}

// TestP19_4Ends: every other reply ends the call, with its Status, and with Status 0 with its fields.
func TestP19_4Ends(t *testing.T) {
	for _, k := range goodCalls(2, 0) {
		for _, status := range statuses() {
			if status != api.ErrEpoch {
				g := table(t, 1)
				n := g.starts(0, k)
				g.refuse(0, g.one(), 1, status)
				g.ends(api.Result{Call: n, Op: k.Op, Status: status})
				flies(t, g.c)
				wires(t, g.c, n)
				is(t, "how many handles there are", len(g.c.Handles()), 3)
			}
		}
		g := table(t, 1)
		n := g.starts(0, k)
		r := g.one()
		p := goodReply(r, 1, 400)
		is(t, "whether it is an answer", g.gets(0, p), true)
		want := api.Result{Call: n, Op: k.Op, Attr: p.Attr, Data: p.Data, List: p.List, More: p.More}
		if k.Op == api.Lookup || k.Op == api.Create || k.Op == api.Mkdir {
			want.Handle = 3
		}
		g.ends(want)
		is(t, "whether it is an answer again", g.gets(0, p), false)
		is(t, "how many results there are", len(g.results()), 0)
	}
}

// TestP19_4MovesOn: an answer that ends a call lets the row move on in the same Receive; the handle of the call that ended is there ahead of that.
func TestP19_4MovesOn(t *testing.T) {
	g := groundOf(t, 1, 2, usual)
	g.starts(0, look("/"))
	g.starts(0, look("/b"))
	out := g.take()
	g.answer(0, out[1], 1, 258)
	g.starts(0, api.Call{Op: api.Getattr, H: 0})
	is(t, "how much goes out", len(g.take()), 0)
	g.answer(4, out[0], 2, 256)
	asks(t, g.one(), api.Request{Client: 1, Seq: 3, Ack: 2, Epoch: 2, Op: api.Lookup, Path: "/b"})
	handles(t, g.c, api.Handle{No: 0, Id: 258, Epoch: 1, Path: "/b"}, api.Handle{No: 1, Id: 256, Epoch: 2, Path: "/"})
	is(t, "First", g.c.Waiting()[0].First, 4)
}
