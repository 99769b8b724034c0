package server_test

import (
	"bytes"
	"fmt"
	"reflect"
	"slices"
	"testing"

	"annex/api"
	"annex/msg"
	"annex/server"
)

// TestP15_5Nothing: nothing waits, nothing happens.
func TestP15_5Nothing(t *testing.T) {
	s, d := up(t, example)
	image := d.Durable()
	is(t, "Arm", d.Arm(1), api.OK)
	for range 5 {
		none(t, "Step", step(t, s))
	}
	is(t, "the power", d.Power(), true)
	is(t, "what lasts", bytes.Equal(d.Durable(), image), true)
}

// TestP15_5InTurn: clients are served in turn, the requests of each in their order.
func TestP15_5InTurn(t *testing.T) {
	shape := api.Shape{Clients: 3, Window: 3, Places: 3, Cache: 9, Inodes: 4, Quota: 0, Data: 16, Journal: 27}
	s, _ := up(t, shape)
	for _, r := range [][2]int{{2, 1}, {2, 3}, {2, 2}, {0, 2}, {1, 1}, {0, 1}} {
		comes(t, s, lookup(from(r[0], r[1], 0, 0), "/"))
	}
	for i, want := range [][2]int{{0, 2}, {1, 1}, {2, 1}, {0, 1}, {2, 3}, {2, 2}} {
		list := step(t, s)
		p := one(t, fmt.Sprint("Step ", i), list, want[0])
		is(t, "its seq", p.Seq, want[1])
	}
	none(t, "Step", step(t, s))
	comes(t, s, lookup(from(1, 2, 0, 0), "/"))
	comes(t, s, lookup(from(0, 3, 0, 0), "/"))
	is(t, "behind client 2 comes client 0", one(t, "Step", step(t, s), 0).Seq, 3)
	is(t, "then client 1", one(t, "Step", step(t, s), 1).Seq, 2)
}

// TestP15_5Replies: the replies are the tree's, with the server's epoch; each is kept with the transaction's stamp.
func TestP15_5Replies(t *testing.T) {
	s, d := up(t, wide)
	d.Crash(nil)
	s = openOn(t, d) // epoch 2: the first stamp is 4
	data := []byte("hello")
	attr := func(id, kind, size, change int) api.Attr {
		return api.Attr{Id: id, Kind: kind, Size: size, Change: change}
	}
	read := api.Request{Op: api.Read, Id: 257, Off: 1, Len: 3}
	readdir := api.Request{Op: api.Readdir, Id: 256, Len: 1}
	remove := api.Request{Op: api.Remove, Id: 256, Name: "b"}
	rename := api.Request{Op: api.Rename, Id: 256, Name: "a", Id2: 258, Name2: "c"}
	rmdir := api.Request{Op: api.Rmdir, Id: 256, Name: "d"}
	for i, c := range []struct {
		r api.Request
		p api.Reply
	}{
		{create(from(0, 0, 0, 0), 256, "a"), api.Reply{Attr: attr(257, 1, 0, 4)}},
		{write(from(0, 0, 0, 0), 257, 0, data), api.Reply{Attr: attr(257, 1, 5, 5)}},
		{mkdir(from(0, 0, 0, 0), 256, "d"), api.Reply{Attr: attr(258, 2, 0, 6)}},
		{read, api.Reply{Attr: attr(257, 1, 5, 5), Data: []byte("ell")}},
		{readdir, api.Reply{List: []api.Entry{{Name: "a", Id: 257, Kind: 1}}, More: true}},
		{remove, api.Reply{Status: api.ErrNoEnt}},
		{rename, api.Reply{}},
		{rmdir, api.Reply{Status: api.ErrNotEmpty}},
		{lookup(from(0, 0, 0, 0), "/d/c"), api.Reply{Attr: attr(257, 1, 5, 5)}},
		{getattr(from(0, 0, 0, 0), 256), api.Reply{Attr: attr(256, 2, 32, 10)}},
		{getattr(from(0, 0, 0, 0), 999), api.Reply{Status: api.ErrStale}},
	} {
		c.r.Client, c.r.Seq, c.r.Ack, c.r.Epoch = i%3, i+1, i, 2
		c.p.Client, c.p.Seq, c.p.Epoch, c.p.Op = i%3, i+1, 2, c.r.Op
		if got := does(t, s, c.r); !reflect.DeepEqual(got, c.p) {
			t.Fatalf("%+v: %+v, want %+v", c.r, got, c.p)
		}
		b, _ := msg.EncodeReply(c.p)
		kept := api.Kept{Client: i % 3, Seq: i + 1, Stamp: 4 + i, Data: b}
		if !slices.ContainsFunc(s.Kept(), func(k api.Kept) bool { return reflect.DeepEqual(k, kept) }) {
			t.Fatalf("%+v is not kept", kept)
		}
		is(t, "the watermark", s.Marks()[i%3], i)
	}
}

// TestP15_5Status: of an operation with another Status nothing stays; but the watermark is raised, and the reply kept.
func TestP15_5Status(t *testing.T) {
	s, d := up(t, wide)
	does(t, s, create(from(0, 1, 0, 1), 256, "a"))
	before := treeOf(t, d.Durable())
	p := does(t, s, write(from(0, 3, 2, 1), 257, 5000, make([]byte, 1001)))
	is(t, "WRITE", p.Status, api.ErrQuota)
	is(t, "the tree", bytes.Equal(treeOf(t, d.Durable()), before), true)
	is(t, "the watermark", s.Marks()[0], 2)
	is(t, "kept", len(s.Kept()), 2)
}

// TestP15_5Marks: the watermark becomes the Ack, if that is above it.
func TestP15_5Marks(t *testing.T) {
	s, _ := up(t, wide)
	mark := 0
	for i, r := range [][2]int{{1, 0}, {3, 0}, {2, 1}, {4, 2}, {5, 2}, {6, 5}, {8, 5}, {7, 5}, {20, 17}, {19, 18}, {last, last - 1}} {
		does(t, s, lookup(from(1, r[0], r[1], 0), "/"))
		mark = max(mark, r[1])
		is(t, fmt.Sprint("Marks behind ", i), slices.Equal(s.Marks(), []int{0, mark, 0}), true)
	}
}

// TestP15_5Overtaken: a request that the watermark has passed while it waited is taken out, and nothing happens.
func TestP15_5Overtaken(t *testing.T) {
	s, d := up(t, wide)
	comes(t, s, create(from(0, 4, 2, 1), 256, "a"))
	comes(t, s, create(from(0, 2, 1, 1), 256, "b")) // at the watermark by then
	one(t, "Step", step(t, s), 0)
	image := d.Durable()
	is(t, "Arm", d.Arm(1), api.OK)
	none(t, "Step", step(t, s))
	is(t, "the power", d.Power(), true)
	is(t, "what lasts", bytes.Equal(d.Durable(), image), true)
	is(t, "Waits", slices.Equal(s.Waits(), []int{0, 0, 0}), true)
	d.Arm(0)
	is(t, "kept", len(s.Kept()), 1)

	comes(t, s, create(from(0, 6, 3, 1), 256, "c"))
	comes(t, s, create(from(0, 5, 3, 1), 256, "d")) // above it by then
	one(t, "Step", step(t, s), 0)
	is(t, "Step", one(t, "Step", step(t, s), 0).Seq, 5)
}

// full is a server whose kept replies may not go: two of client 0, above its watermark.
func full(t *testing.T) *server.Server {
	t.Helper()
	shape := wide
	shape.Cache = 2
	s, _ := up(t, shape)
	does(t, s, create(from(0, 1, 0, 1), 256, "a"))
	does(t, s, create(from(0, 2, 0, 1), 256, "b"))
	return s
}

// TestP15_5CacheFull: no kept reply may go: BUSY, and nothing of the transaction stays, the raised watermark neither.
func TestP15_5CacheFull(t *testing.T) {
	shape := wide
	shape.Cache = 2
	s, d := up(t, shape)
	does(t, s, create(from(0, 1, 0, 1), 256, "a"))
	does(t, s, create(from(0, 2, 0, 1), 256, "b"))
	kept := s.Kept()
	image := d.Durable()
	for _, r := range []api.Request{
		create(from(1, 2, 1, 1), 256, "c"),
		lookup(from(2, 3, 1, 0), "/"),
		getattr(from(0, 3, 0, 1), 999),
		lookup(from(1, 1, 0, 0), "/"),
	} {
		is(t, "Arm", d.Arm(1), api.OK)
		comes(t, s, r)
		refused(t, "BUSY", step(t, s), r, 1, api.ErrBusy)
		is(t, "the power", d.Power(), true)
		is(t, "Marks", slices.Equal(s.Marks(), []int{0, 0, 0}), true)
		is(t, "Waits", slices.Equal(s.Waits(), []int{0, 0, 0}), true)
		is(t, "Kept", sameKept(s.Kept(), kept), true)
		is(t, "what lasts", bytes.Equal(d.Durable(), image), true)
		none(t, "it waits no longer", step(t, s))
		d.Arm(0)
	}
	is(t, "Up", s.Up(), true)
	p := does(t, s, create(from(0, 3, 1, 1), 256, "d")) // its own Ack makes room
	is(t, "its stamp", p.Attr.Change, 5)
	is(t, "its id", p.Attr.Id, 259)
	is(t, "who is kept", seqs(s), "[[0 2] [0 3]]")
}

// seqs are the clients and seqs of the kept replies.
func seqs(s *server.Server) string {
	var list [][2]int
	for _, k := range s.Kept() {
		list = append(list, [2]int{k.Client, k.Seq})
	}
	return fmt.Sprint(list)
}

// TestP15_5BusyIsNoAnswer: what was told BUSY is done, when it comes again and there is room.
func TestP15_5BusyIsNoAnswer(t *testing.T) {
	s := full(t)
	r := create(from(1, 1, 0, 1), 256, "c")
	comes(t, s, r)
	refused(t, "BUSY", step(t, s), r, 1, api.ErrBusy)
	does(t, s, lookup(from(0, 3, 2, 0), "/"))
	is(t, "CREATE", does(t, s, r).Attr.Id, 259)
	is(t, "who is kept", seqs(s), "[[0 3] [1 1]]")
}

// TestP15_5Operations: a Step commits just one transaction: its writes and flushes, counted.
func TestP15_5Operations(t *testing.T) {
	for _, c := range []struct {
		r    api.Request
		many int // blocks
	}{
		{lookup(from(0, 1, 0, 0), "/"), 3},                  // the slot of the reply
		{lookup(from(0, 2, 1, 0), "/"), 4},                  // and the watermarks
		{create(from(0, 1, 0, 1), 256, "a"), 3 + 3},         // and the bitmap, the table, the root's entries
		{create(from(0, 2, 1, 1), 256, "a"), 4 + 3},         //
		{getattr(from(0, 1, 0, 1), 999), 3},                 // a Status
		{create(from(0, 3, 2, 1), 999, "a"), 4},             // a Status, and the watermarks
		{write(from(0, 1, 0, 1), 256, 0, []byte("abc")), 3}, // a Status
	} {
		want := c.many + 4 // a descriptor, a flush, a commit, a flush
		for k := 1; k <= want+1; k++ {
			s, d := up(t, wide)
			comes(t, s, c.r)
			is(t, "Arm", d.Arm(k), api.OK)
			list, code := s.Step()
			if k <= want {
				is(t, fmt.Sprint("Step with the power failing at ", k), code, api.ErrPower)
				none(t, "Step", list)
			} else {
				is(t, "Step", code, api.OK)
				one(t, "Step", list, 0)
			}
		}
	}
}
