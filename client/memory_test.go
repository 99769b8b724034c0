package client_test

import (
	"bytes"
	"runtime"
	"slices"
	"sync"
	"testing"

	"annex/api"
	"annex/client"
	"annex/msg"
)

// spoil writes into a row of bytes, into its spare room, and behind it.
func spoil(b []byte) {
	room := b[:cap(b)]
	for i := range room {
		room[i] ^= 0xa5
	}
	_ = append(b, "spoilt"...)
	_ = append(b[:0], "spoilt"...)
}

// spoilList writes x into a list, into its spare room, and behind it.
func spoilList[T any](list []T, x T) {
	room := list[:cap(list)]
	for i := range room {
		room[i] = x
	}
	_ = append(list, x)
	_ = append(list[:0], x)
}

func spoilTaken(list [][]byte) {
	for _, b := range list {
		spoil(b)
	}
	spoilList(list, []byte("spoilt"))
}

func spoilResults(list []api.Result) {
	for _, r := range list {
		spoil(r.Data)
		spoilList(r.List, api.Entry{Name: "spoilt"})
	}
	spoilList(list, api.Result{Call: 99, Data: []byte("spoilt")})
}

// spoilLooks spoils all that can be asked for.
func (g *ground) spoilLooks() {
	g.t.Helper()
	for _, n := range g.c.Flying() {
		spoilList(g.c.Wires(n), -9)
	}
	spoilList(g.c.Flying(), -9)
	spoilList(g.c.Handles(), api.Handle{No: 9, Path: "spoilt"})
	spoilList(g.c.Waiting(), api.Waiting{Seq: 9, Times: -1})
	g.holds()
}

// withRoom is b with bytes in its spare room, and what it has in all.
func withRoom(b []byte) (part, all []byte) {
	all = append(bytes.Clone(b), "the room behind it"...)
	return all[:len(b)], all
}

// TestP19_8HandedIn: neither a call's data nor a datagram is changed, spare room neither, now or later.
func TestP19_8HandedIn(t *testing.T) {
	for _, k := range goodCalls(2, 0) {
		g := table(t, 1)
		data, all := withRoom(k.Data)
		was := bytes.Clone(all)
		k.Data = data
		for range 2 { // the second one is refused
			g.start(0, k)
		}
		var given, wanted [][]byte
		for i := range 3 {
			r := g.take()[0]
			p := goodReply(r, 1, 257)
			if i < 2 {
				p = api.Reply{Client: 1, Seq: r.Seq, Epoch: 1, Op: r.Op, Status: api.ErrEpoch}
			}
			b, room := withRoom(datagram(t, p))
			given, wanted = append(given, room), append(wanted, bytes.Clone(room))
			is(t, "whether it is an answer", g.receive(0, b), true)
			g.tick(100 * i)
		}
		spoilResults(g.c.Results())
		is(t, "what Start was given", bytes.Equal(all, was), true)
		is(t, "what Receive was given", slices.EqualFunc(given, wanted, bytes.Equal), true)
	}
}

// TestP19_8NotKept: what becomes of the data behind a Start is not seen in any wire request, not in one that goes out much later; of a datagram behind a Receive neither in the result.
func TestP19_8NotKept(t *testing.T) {
	g := table(t, 2)
	g.starts(0, look("/"))
	g.starts(0, look("/"))
	out := g.take()
	g.answer(0, out[1], 1, 256)
	data := []byte("hello, world")
	k := api.Call{Op: api.Write, H: 2, Off: 3, Data: data[:5]}
	g.starts(0, k) // stands in the row
	spoil(data)
	g.answer(0, out[0], 1, 256)
	r := g.one()
	is(t, "the data", string(r.Data), "hello")
	g.refuse(0, r, 1, api.ErrEpoch)
	r = g.one()
	is(t, "the data once more", string(r.Data), "hello")
	g.tick(100)
	is(t, "the data again", string(g.one().Data), "hello")

	for _, k := range goodCalls(2, 0) {
		g := table(t, 1)
		n := g.starts(0, k)
		want := goodReply(g.one(), 1, 257)
		b := datagram(t, want)
		g.receive(0, b)
		spoil(b)
		list := g.c.Results()
		want2 := api.Result{Call: n, Op: k.Op, Attr: want.Attr, Data: want.Data, List: want.List, More: want.More, Handle: list[0].Handle}
		is(t, "whether the result is its own", sameResult(list[0], want2), true)
	}
}

// TestP19_8HandedOut: all that is handed out is spoilt; what comes behind it is as if nothing had been.
func TestP19_8HandedOut(t *testing.T) {
	g := table(t, 3)
	now := 0
	for range 20 {
		for _, k := range goodCalls(2, 0) {
			now++
			g.start(now, k)
			g.spoilLooks()
			g.tick(now + 50)
			list := g.c.Take()
			is(t, "whether Take gives what was sent", slices.EqualFunc(list, g.w.x.Take(), bytes.Equal), true)
			spoilTaken(list)
			for i, o := range g.c.Waiting() {
				r := g.w.sent[o.Seq]
				switch (now + i) % 3 {
				case 0:
					g.refuse(now, r, g.w.x.Epoch()+1, api.ErrEpoch)
				default:
					g.answer(now, r, g.w.x.Epoch(), idOfPath(r.Path))
				}
				g.spoilLooks()
			}
			results := g.c.Results()
			is(t, "whether Results gives what came", slices.EqualFunc(results, g.w.results, sameResult), true)
			g.w.results = nil
			spoilResults(results)
			for _, h := range g.c.Handles() {
				if h.No > 2 {
					g.close(h.No)
				}
			}
		}
	}
	is(t, "whether many calls have ended", len(g.w.calls) > 200, true)
}

// idOfPath is where a path leads to in this story.
func idOfPath(path string) int {
	if path == "/a" {
		return 257
	}
	return 256
}

// TestP19_8Apart: two answers, and two lists of one answer, are not one memory.
func TestP19_8Apart(t *testing.T) {
	g := table(t, 4)
	for _, k := range []api.Call{{Op: api.Read, H: 2, Len: 5}, {Op: api.Read, H: 2, Len: 5}, {Op: api.Readdir, H: 0, Len: 5}, {Op: api.Readdir, H: 0, Len: 5}} {
		g.starts(0, k)
	}
	for _, r := range g.take() {
		g.answer(0, r, 1, 257)
	}
	list := g.c.Results()
	is(t, "how many results there are", len(list), 4)
	spoil(list[0].Data)
	is(t, "the other Data", string(list[1].Data), "hello")
	spoilList(list[2].List, api.Entry{Name: "spoilt"})
	is(t, "the other List", list[3].List[0].Name, "a")
	g.starts(0, look("/"))
	for _, look := range []func() []int{g.c.Flying, func() []int { return g.c.Wires(8) }} {
		one, two := look(), look()
		spoilList(one, -9)
		is(t, "what was asked for beside it", two[0] > 0, true)
	}
	one, two := g.c.Handles(), g.c.Handles()
	spoilList(one, api.Handle{})
	is(t, "the handles beside it", two[2].Path, "/a")
}

// TestP19_8Kept: results that have not been asked for yet are not touched by those that were.
func TestP19_8Kept(t *testing.T) {
	g := table(t, 1)
	for i := range 50 {
		g.starts(0, api.Call{Op: api.Read, H: 2, Len: 5})
		g.answer(0, g.one(), 1, 257)
		if i%7 == 0 {
			list := g.c.Results()
			is(t, "whether Results gives what came", slices.EqualFunc(list, g.w.results, sameResult), true)
			for _, r := range list[len(list):cap(list)] {
				is(t, "whether the spare room is empty", sameResult(r, api.Result{}), true)
			}
			g.w.results = nil
			spoilResults(list)
		}
	}
}

// TestP19_8SideBySide: clients, of one number too, do not hear of one another, also at the same time.
func TestP19_8SideBySide(t *testing.T) {
	var list []*ground
	for i := range 6 {
		list = append(list, groundOf(t, i/2, 1+i, usual))
	}
	for i := range 3000 {
		g := list[i*i%7%6]
		switch i % 5 {
		case 0:
			g.start(i, goodCalls(i%3, i%2)[i%17])
		case 1, 2:
			g.newest(i, api.OK, 1+i/200)
		case 3:
			g.oldest(i, api.ErrEpoch, 1+i/200)
		default:
			g.tick(i)
		}
		for _, g := range list {
			g.holds()
		}
	}
	var all sync.WaitGroup
	came := make([]int, 16)
	for n := range came {
		all.Go(func() { came[n] = story() })
	}
	all.Wait()
	for _, c := range came {
		is(t, "a client beside others", c, came[0])
	}
}

// story leads a client of its own, and tells a number for all that it sent.
func story() int {
	c := client.New(1, 4, usual)
	came := 0
	for now := range 1500 {
		c.Start(now, goodCalls(now%3, now%5)[now%17])
		c.Tick(now)
		for _, b := range c.Take() {
			came = came*31 + int(b[len(b)-1])
			r, _ := msg.DecodeRequest(b)
			p := goodReply(r, 1+now/50, 256)
			if now%7 == 0 {
				p = api.Reply{Client: 1, Seq: r.Seq, Epoch: 1 + now/50, Op: r.Op, Status: api.ErrEpoch}
			}
			reply, _ := msg.EncodeReply(p)
			c.Receive(now, reply)
		}
		for _, r := range c.Results() {
			came = came*31 + r.Call + int(r.Status)
		}
	}
	return came*31 + len(c.Handles())
}

// bytesInUse is what is in use behind a collection.
func bytesInUse() int {
	runtime.GC()
	var m runtime.MemStats
	runtime.ReadMemStats(&m)
	return int(m.HeapAlloc)
}

// TestP19_8NothingBehind: calls that have ended and results that were handed out leave no memory in use, however many there were.
func TestP19_8NothingBehind(t *testing.T) {
	before := bytesInUse()
	c := made(t, 1, 8, usual)
	k := api.Call{Op: api.Write, Data: make([]byte, api.MaxIO)}
	for now := range 1 << 14 {
		if now == 0 {
			c.Start(now, look("/"))
		}
		c.Start(now, k)
		for _, r := range requestsOf(t, c.Take()) {
			c.Receive(now, datagram(t, goodReply(r, 1, 256)))
		}
		c.Results()
	}
	is(t, "whether little is in use", bytesInUse()-before < 1<<17, true)
	runtime.KeepAlive(c)
}
