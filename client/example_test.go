package client_test

import (
	"slices"
	"testing"

	"annex/api"
	"annex/client"
)

// desk is a client with whom the chapter's table is gone through, without the second telling.
type desk struct {
	*testing.T
	c *client.Client
}

// starts asks what Start answers, and which requests go out then.
func (k desk) starts(call api.Call, number int, code api.Errno, out ...api.Request) {
	k.Helper()
	n, e := k.c.Start(0, call)
	is(k.T, "Start's error", e, code)
	is(k.T, "Start's number", n, number)
	k.sends(out...)
}

func (k desk) sends(want ...api.Request) {
	k.Helper()
	if got := requestsOf(k.T, k.c.Take()); !slices.EqualFunc(got, want, sameRequest) {
		k.Fatalf("what goes out: %+v, want %+v", got, want)
	}
}

// gets lets a reply come, and asks which requests go out then.
func (k desk) gets(p api.Reply, out ...api.Request) {
	k.Helper()
	p.Client = 1
	k.c.Receive(0, datagram(k.T, p))
	k.sends(out...)
}

func (k desk) ends(want ...api.Result) {
	k.Helper()
	if got := k.c.Results(); !slices.EqualFunc(got, want, sameResult) {
		k.Fatalf("Results: %+v, want %+v", got, want)
	}
}

// TestP19Example: the chapter's table, one call behind the other.
func TestP19Example(t *testing.T) {
	k := desk{t, made(t, 1, 2, usual)}
	root, file := api.Attr{Id: 256, Kind: api.Dir}, api.Attr{Id: 257, Kind: api.File}
	k.starts(api.Call{Op: api.Getattr}, 0, api.ErrHandle)
	k.starts(look("a"), 0, api.ErrPath)
	k.starts(look("/"), 1, api.OK, api.Request{Client: 1, Seq: 1, Op: api.Lookup, Path: "/"})
	k.gets(api.Reply{Seq: 1, Epoch: 3, Op: api.Lookup, Attr: root})
	k.ends(api.Result{Call: 1, Op: api.Lookup, Attr: root})
	handles(t, k.c, api.Handle{No: 0, Id: 256, Epoch: 3, Path: "/"})
	k.starts(api.Call{Op: api.Create, Name: "a"}, 2, api.OK, api.Request{Client: 1, Seq: 2, Ack: 1, Epoch: 3, Op: api.Create, Id: 256, Name: "a"})
	k.gets(api.Reply{Seq: 2, Epoch: 3, Op: api.Create, Attr: file})
	k.ends(api.Result{Call: 2, Op: api.Create, Handle: 1, Attr: file})
	handles(t, k.c, api.Handle{No: 0, Id: 256, Epoch: 3, Path: "/"}, api.Handle{No: 1, Id: 257, Epoch: 3, Path: "/a"})

	k.starts(api.Call{Op: api.Read, H: 1, Len: 5}, 3, api.OK, api.Request{Client: 1, Seq: 3, Ack: 2, Epoch: 3, Op: api.Read, Id: 257, Len: 5})
	k.gets(api.Reply{Seq: 3, Epoch: 4, Op: api.Read, Status: api.ErrEpoch}, api.Request{Client: 1, Seq: 4, Ack: 3, Epoch: 4, Op: api.Lookup, Path: "/a"})
	k.gets(api.Reply{Seq: 4, Epoch: 4, Op: api.Lookup, Attr: file}, api.Request{Client: 1, Seq: 5, Ack: 4, Epoch: 4, Op: api.Read, Id: 257, Len: 5})
	handles(t, k.c, api.Handle{No: 0, Id: 256, Epoch: 3, Path: "/"}, api.Handle{No: 1, Id: 257, Epoch: 4, Path: "/a"})
	wires(t, k.c, 3, 3, 4, 5)
	is(t, "Close", k.c.Close(1), api.OK)
	is(t, "Close again", k.c.Close(1), api.ErrHandle)
	k.gets(api.Reply{Seq: 5, Epoch: 4, Op: api.Read, Attr: file, Data: []byte("hello")})
	k.ends(api.Result{Call: 3, Op: api.Read, Attr: file, Data: []byte("hello")})

	k.starts(api.Call{Op: api.Getattr}, 4, api.OK, api.Request{Client: 1, Seq: 6, Ack: 5, Epoch: 4, Op: api.Lookup, Path: "/"})
	k.gets(api.Reply{Seq: 6, Epoch: 4, Op: api.Lookup, Attr: root}, api.Request{Client: 1, Seq: 7, Ack: 6, Epoch: 4, Op: api.Getattr, Id: 256})
	k.starts(api.Call{Op: api.Rmdir, H: 5, Name: ".."}, 0, api.ErrHandle)
	k.starts(api.Call{Op: api.Read, H: 0, Off: 0, Len: 0}, 0, api.ErrArg)
	k.starts(api.Call{Op: api.Read, H: 0, Len: 1, Name: "x"}, 0, api.ErrArg)
	k.starts(look("/b"), 5, api.OK, api.Request{Client: 1, Seq: 8, Ack: 6, Epoch: 4, Op: api.Lookup, Path: "/b"})
	k.starts(look("/c"), 0, api.ErrWindowFull)
	flies(t, k.c, 4, 5)
	k.gets(api.Reply{Seq: 8, Epoch: 4, Op: api.Lookup, Attr: file})
	k.gets(api.Reply{Seq: 7, Epoch: 4, Op: api.Getattr, Attr: root})
	k.ends(api.Result{Call: 5, Op: api.Lookup, Handle: 1, Attr: file}, api.Result{Call: 4, Op: api.Getattr, Attr: root})
	k.ends()
}

// TestP19ExampleStale: the table's last line: a path that leads to another id, or to none.
func TestP19ExampleStale(t *testing.T) {
	for _, p := range []api.Reply{
		{Seq: 3, Epoch: 5, Op: api.Lookup, Attr: api.Attr{Id: 513, Kind: api.File}},
		{Seq: 3, Epoch: 5, Op: api.Lookup, Status: api.ErrNoEnt},
	} {
		k := desk{t, made(t, 1, 2, usual)}
		k.starts(look("/a"), 1, api.OK, api.Request{Client: 1, Seq: 1, Op: api.Lookup, Path: "/a"})
		k.gets(api.Reply{Seq: 1, Epoch: 4, Op: api.Lookup, Attr: api.Attr{Id: 257, Kind: api.File}})
		k.ends(api.Result{Call: 1, Op: api.Lookup, Attr: api.Attr{Id: 257, Kind: api.File}})
		k.starts(api.Call{Op: api.Getattr}, 2, api.OK, api.Request{Client: 1, Seq: 2, Ack: 1, Epoch: 4, Op: api.Getattr, Id: 257})
		k.gets(api.Reply{Seq: 2, Epoch: 5, Op: api.Getattr, Status: api.ErrEpoch}, api.Request{Client: 1, Seq: 3, Ack: 2, Epoch: 5, Op: api.Lookup, Path: "/a"})
		k.gets(p)
		k.ends(api.Result{Call: 2, Op: api.Getattr, Status: api.ErrStale})
		handles(t, k.c, api.Handle{No: 0, Id: 257, Epoch: 4, Path: "/a"})
	}
}
