package tree_test

import (
	"encoding/binary"
	"fmt"
	"math"
	"strings"
	"testing"

	"annex/api"
	"annex/device"
	"annex/journal"
	"annex/msg"
	"annex/sum"
	"annex/tree"
)

// small is a tree with a file "f" (257), a directory "d" (258) with a file "g" (259), and an empty directory "e" (260); one slot is free.
func small(t *testing.T) *ground {
	t.Helper()
	g := groundOf(t, 6, 20000)
	for _, r := range []api.Request{op(api.Create, 256, "f"), op(api.Mkdir, 256, "d"), op(api.Create, 258, "g"), op(api.Mkdir, 256, "e"), write(257, 0, "contents")} {
		g.ok(r)
		g.commit()
	}
	return g
}

// good are requests that are answered with the Status 0, one of each operation and more.
func good() []api.Request {
	return []api.Request{
		look("/"), look("/d/g"), getattr(256), getattr(259), read(257, 0, 9), read(257, 4000, 1), write(257, 3, "xyz"), write(259, 5000, "far"),
		op(api.Create, 256, "new"), op(api.Create, 258, "new"), op(api.Remove, 256, "f"), op(api.Remove, 258, "g"), op(api.Mkdir, 260, "new"), op(api.Rmdir, 256, "e"),
		move(256, "f", 260, "f"), move(256, "f", 256, "f"), move(256, "f", 258, "g"), move(256, "d", 256, "e"), move(256, "d", 260, "d"), list(256, "", 16), list(256, "d", 1),
	}
}

// refused are requests with the Statuses that they have there.
var refused = []struct {
	r    api.Request
	want api.Errno
}{
	{look("/x"), api.ErrNoEnt}, {look("/f/x"), api.ErrNotDir}, {getattr(5), api.ErrStale}, {getattr(513), api.ErrStale}, {read(258, 0, 1), api.ErrIsDir}, {read(1, 0, 1), api.ErrStale},
	{write(256, 0, "a"), api.ErrIsDir}, {write(257, 69632, "a"), api.ErrFBig}, {write(257, 20000, "a"), api.ErrQuota}, {write(999, 0, "a"), api.ErrStale},
	{op(api.Create, 256, "f"), api.ErrExist}, {op(api.Create, 257, "f"), api.ErrNotDir}, {op(api.Create, 999, "f"), api.ErrStale},
	{op(api.Mkdir, 256, "f"), api.ErrExist}, {op(api.Mkdir, 257, "f"), api.ErrNotDir}, {op(api.Mkdir, 999, "f"), api.ErrStale},
	{op(api.Remove, 256, "d"), api.ErrIsDir}, {op(api.Remove, 256, "x"), api.ErrNoEnt}, {op(api.Remove, 257, "x"), api.ErrNotDir}, {op(api.Remove, 999, "x"), api.ErrStale},
	{op(api.Rmdir, 256, "f"), api.ErrNotDir}, {op(api.Rmdir, 256, "d"), api.ErrNotEmpty}, {op(api.Rmdir, 256, "x"), api.ErrNoEnt}, {op(api.Rmdir, 257, "x"), api.ErrNotDir}, {op(api.Rmdir, 999, "x"), api.ErrStale},
	{move(256, "x", 256, "y"), api.ErrNoEnt}, {move(256, "d", 258, "y"), api.ErrInside}, {move(256, "f", 256, "d"), api.ErrIsDir}, {move(256, "d", 256, "f"), api.ErrNotDir}, {move(256, "e", 256, "d"), api.ErrNotEmpty},
	{move(999, "f", 256, "x"), api.ErrStale}, {move(257, "f", 256, "x"), api.ErrNotDir}, {move(256, "f", 999, "x"), api.ErrStale}, {move(256, "f", 257, "x"), api.ErrNotDir},
	{list(257, "", 1), api.ErrNotDir}, {list(999, "", 1), api.ErrStale},
}

// TestP12_2Fields: of a reply.
func TestP12_2Fields(t *testing.T) {
	for _, r := range good() {
		g := small(t)
		r.Client, r.Seq, r.Ack, r.Epoch = 5, 1<<62, 77, 1<<62
		p, code := g.do(r)
		if code != api.OK || p.Client != 5 || p.Seq != 1<<62 || p.Epoch != 0 || p.Op != r.Op || p.Status != api.OK {
			t.Errorf("%+v: %+v, %d", r, p, code)
		}
		p.Epoch = 1 // as a server gives it one, it is valid
		is(t, fmt.Sprintf("CheckReply of %+v", p), msg.CheckReply(p), api.OK)
	}
}

// TestP12_2Status: with one that is not 0 no other field is there, and the transaction is as it was, with what it had written.
func TestP12_2Status(t *testing.T) {
	g := small(t)
	g.ok(write(259, 0, "written in this transaction"))
	for _, c := range refused {
		r := c.r
		r.Client, r.Seq, r.Ack, r.Epoch = 6, 4, 3, 2
		p, code := g.do(r)
		if want := (api.Reply{Client: 6, Seq: 4, Op: r.Op, Status: c.want}); code != api.OK || !sameReply(p, want) {
			t.Errorf("%+v: %+v, %d, want %+v", r, p, code, want)
		}
		is(t, "CheckReply but for the epoch", msg.CheckReply(api.Reply{Client: p.Client, Seq: p.Seq, Epoch: 1, Op: p.Op, Status: p.Status}), api.OK)
	}
	is(t, "READ", string(g.ok(read(259, 8, 7)).Data), "in this")
}

// wrong are requests that are none.
func wrong() []api.Request {
	data := make([]byte, 1025)
	list := []api.Request{
		{}, {Seq: 1, Op: 11}, {Seq: 1, Op: -1}, {Seq: 1}, {Client: 8, Seq: 1, Op: 2, Id: 256}, {Client: -1, Seq: 1, Op: 2, Id: 256}, {Op: 2, Id: 256}, {Seq: 1, Ack: 1, Op: 2, Id: 256}, {Seq: 1, Epoch: -1, Op: 2, Id: 256},
		{Seq: 1, Op: 1, Path: ""}, {Seq: 1, Op: 1, Path: "f"}, {Seq: 1, Op: 1, Path: "/f/"}, {Seq: 1, Op: 1, Path: strings.Repeat("/a", 17)}, {Seq: 1, Op: 1, Path: "/", Id: 256},
		{Seq: 1, Op: 2}, {Seq: 1, Op: 2, Id: 1 << 49}, {Seq: 1, Op: 2, Id: -1}, {Seq: 1, Op: 2, Id: 256, Len: 1},
		{Seq: 1, Op: 3, Id: 257}, {Seq: 1, Op: 3, Id: 257, Len: 1025}, {Seq: 1, Op: 3, Id: 257, Len: 1, Off: -1}, {Seq: 1, Op: 3, Id: 257, Len: 1, Off: 69633},
		{Seq: 1, Op: 4, Id: 257}, {Seq: 1, Op: 4, Id: 257, Data: data}, {Seq: 1, Op: 4, Id: 257, Data: data[:1], Off: -1}, {Seq: 1, Op: 4, Id: 257, Data: data[:1], Off: math.MaxInt},
		{Seq: 1, Op: 9, Id: 256, Name: "f", Id2: 256}, {Seq: 1, Op: 9, Id: 256, Name: "f", Name2: "x"}, {Seq: 1, Op: 9, Id: 256, Id2: 256, Name2: "x"},
		{Seq: 1, Op: 10, Id: 256}, {Seq: 1, Op: 10, Id: 256, Len: 17}, {Seq: 1, Op: 10, Id: 256, Len: 1, Name: "a/b"},
	}
	for o := api.Create; o <= api.Rmdir; o++ {
		for _, name := range []string{"", ".", "..", "a/b", "a\x00", strings.Repeat("n", 24)} {
			list = append(list, api.Request{Seq: 1, Op: o, Id: 256, Name: name})
		}
		list = append(list, api.Request{Seq: 1, Op: o, Name: "new"}, api.Request{Seq: 1, Op: o, Id: 256, Name: "new", Name2: "x"})
	}
	return list
}

// TestP12_2NoRequest: nothing is done; without power too. No savepoint is made.
func TestP12_2NoRequest(t *testing.T) {
	g := small(t)
	g.ok(write(259, 0, "written"))
	for _, off := range []bool{false, true} {
		if off {
			g.off()
		}
		for _, r := range wrong() {
			want := msg.CheckRequest(r)
			p, code := tree.Do(g.x, g.l, r)
			if code != want || want == api.OK || !sameReply(p, api.Reply{}) {
				t.Errorf("%+v: %+v, %d, want %d", r, p, code, want)
			}
		}
		if !off {
			g.same("no request")
			mark, _ := g.x.Save()
			is(t, "the mark", mark, 2) // the first one is the WRITE's
		}
	}
	_, code := tree.Do(g.x, g.l, api.Request{Seq: 1, Op: 2, Id: 256})
	is(t, "the first that asks the device", code, api.ErrPower)
}

// TestP12_2Power: each operation meets it, whatever its Status would be.
func TestP12_2Power(t *testing.T) {
	var all []api.Request
	for _, c := range refused {
		all = append(all, c.r)
	}
	for _, r := range append(all, good()...) {
		g := small(t)
		g.off()
		r.Seq = 1
		if p, code := tree.Do(g.x, g.l, r); code != api.ErrPower || !sameReply(p, api.Reply{}) {
			t.Errorf("%+v: %+v, %d", r, p, code)
		}
	}
}

// TestP12_2Ended: each call ends and none panics; nothing else is promised.
func TestP12_2Ended(t *testing.T) {
	g := small(t)
	committed := g.x
	g.commit()
	dropped := g.x
	g.drop()
	g.off()
	met := g.x
	met.Read(0)
	for _, x := range []*journal.Tx{committed, dropped, met, nil} {
		for _, r := range good() {
			r.Seq = 1
			if p, code := tree.Do(x, g.l, r); code != api.OK && !sameReply(p, api.Reply{}) {
				t.Errorf("%+v: %+v beside the error %d", r, p, code)
			}
		}
		for _, r := range wrong() {
			tree.Do(x, g.l, r)
		}
		tree.Format(x, g.l)
		tree.Usage(x, g.l)
	}
}

// TestP12_2Savepoints: Do makes one at most, the other calls none; those that are there stay good.
func TestP12_2Savepoints(t *testing.T) {
	all := good()
	for _, c := range refused {
		all = append(all, c.r)
	}
	for _, r := range all {
		g := small(t)
		one, _ := g.x.Save()
		g.ok(write(257, 1, "between"))
		two, _ := g.x.Save()
		tree.Usage(g.x, g.l)
		g.do(r)
		tree.Usage(g.x, g.l)
		three, _ := g.x.Save()
		if one != 1 || two > 3 || three > two+2 {
			t.Errorf("%+v: the marks %d, %d, %d", r, one, two, three)
		}
		is(t, "Back", g.x.Back(two), api.OK)
		is(t, "what was written between", string(read257(g)), "cbetween")
		is(t, "Back", g.x.Back(one), api.OK)
		is(t, "what was there", string(read257(g)), "contents")
	}
	g := bare(t, 3, 0)
	tree.Format(g.x, g.l)
	tree.Format(g.x, g.l)
	tree.Usage(g.x, g.l)
	mark, _ := g.x.Save()
	is(t, "the mark behind Format and Usage", mark, 1)
}

// read257 asks the first device alone.
func read257(g *ground) []byte {
	p, _ := tree.Do(g.x, g.l, api.Request{Seq: 1, Op: api.Read, Id: 257, Len: 1024})
	return p.Data
}

// TestP12_2TxBig: with each number of blocks that the transaction has written already.
func TestP12_2TxBig(t *testing.T) {
	for _, r := range good() {
		g := small(t)
		g.do(r)
		needs := len(g.x.Blocks())
		for many := 24 - needs - 1; many <= 24; many++ {
			g := small(t)
			g.fill(max(0, many))
			want := api.OK
			if many > 24-needs {
				want = api.ErrTxBig
			}
			_, code := g.do(r)
			is(t, fmt.Sprintf("%+v behind %d blocks", r, many), code, want)
		}
	}
}

// TestP12_2OtherPlaces: a device that does not have the blocks.
func TestP12_2OtherPlaces(t *testing.T) {
	l := layoutOf(t, shapeOf(6, 20000))
	d := device.New(l.Table)
	journal.Format(d, l.Journal, l.JournalLen)
	j, _, _ := journal.Open(d, l.Journal, l.JournalLen)
	x := j.Begin()
	for _, r := range good() {
		r.Seq = 1
		if p, code := tree.Do(x, l, r); code != api.ErrPlace || !sameReply(p, api.Reply{}) {
			t.Errorf("%+v: %+v, %d", r, p, code)
		}
	}
	p, code := tree.Do(x, l, api.Request{Seq: 1, Op: api.Getattr, Id: 255})
	is(t, "an id that is none anyway", p.Status, api.ErrStale)
	is(t, "an id that is none anyway", code, api.OK)
}

// lastSeq lets the journals go on with a number of their own choice.
func (g *ground) lastSeq(seq int) {
	g.t.Helper()
	g.drop()
	g.both(func(s *side) api.Errno {
		s.x.Drop()
		if code := s.j.Check(); code != api.OK {
			return code
		}
		head := make([]byte, 512)
		copy(head, "ANXH")
		binary.BigEndian.PutUint64(head[8:], uint64(seq))
		binary.BigEndian.PutUint64(head[20:], sum.Sum(head[:20]))
		s.d.Write(g.l.Journal, head)
		s.d.Flush()
		s.open(g.t, g.l)
		return api.OK
	})
	is(g.t, "Seq", g.x.Seq(), seq)
}

// TestP12_4LastStamps: the greatest number of a transaction, and the one behind it, which no record may have.
func TestP12_4LastStamps(t *testing.T) {
	for _, r := range good() {
		g := small(t)
		g.lastSeq(1 << 62)
		g.ok(r)
		want := api.OK
		if len(g.x.Blocks()) > 0 {
			want = api.ErrArg
		}
		g = small(t)
		g.lastSeq(1<<62 + 1)
		_, code := g.do(r)
		is(t, fmt.Sprintf("%+v behind the last number", r), code, want)
	}
}
