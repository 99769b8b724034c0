package rtx_test

import (
	"bytes"
	"runtime"
	"slices"
	"sync"
	"testing"

	"annex/api"
	"annex/rtx"
)

// spoil writes into a row of bytes, into its spare room, and behind it.
func spoil(b []byte) {
	room := b[:cap(b)]
	for i := range room {
		room[i] ^= 0xa5
	}
	_ = append(b, "spoilt"...)
	_ = append(b[:0], "spoilt"...)
}

func spoilList(list [][]byte) {
	for _, b := range list {
		spoil(b)
	}
	room := list[:cap(list)]
	for i := range room {
		room[i] = []byte("spoilt")
	}
	_ = append(list, []byte("spoilt"))
}

func spoilWaiting(list []api.Waiting) {
	room := list[:cap(list)]
	for i := range room {
		room[i] = api.Waiting{Seq: 9, Times: -1}
	}
	_ = append(list, api.Waiting{Seq: 9})
}

func spoilReply(p api.Reply) {
	spoil(p.Data)
	room := p.List[:cap(p.List)]
	for i := range room {
		room[i] = api.Entry{Name: "spoilt"}
	}
	_ = append(p.List, api.Entry{Name: "spoilt"})
}

// withRoom is b with bytes in its spare room, and what it has in all.
func withRoom(b []byte) (part, all []byte) {
	all = append(bytes.Clone(b), "the room behind it"...)
	return all[:len(b)], all
}

// TestP18_8HandedIn: neither a request's data nor a datagram is changed, spare room neither.
func TestP18_8HandedIn(t *testing.T) {
	for _, r := range requests() {
		x := made(t, 1, 1, usual)
		data, all := withRoom(r.Data)
		was := bytes.Clone(all)
		if r.Data != nil {
			r.Data = data
		}
		for range 2 { // the second one is refused
			x.Send(0, r)
			is(t, "what Send was given", bytes.Equal(all, was), true)
		}
		for _, op := range []int{1 + r.Op%10, r.Op, r.Op} {
			b, all := withRoom(datagram(t, replyTo(1, 1, 1, op)))
			was := bytes.Clone(all)
			p, _ := x.Receive(0, b)
			spoilReply(p)
			x.Tick(100)
			spoilList(x.Take())
			is(t, "what Receive was given", bytes.Equal(all, was), true)
		}
	}
}

// TestP18_8NotKept: what becomes of the data behind a Send is not seen in any sending; of a datagram behind a Receive neither in the reply.
func TestP18_8NotKept(t *testing.T) {
	for _, r := range requests() {
		g := groundOf(t, 1, 2, usual)
		data := bytes.Clone(r.Data)
		r.Data = data
		g.sends(0, r)
		spoil(data)
		g.takes(1)
		g.tick(8)
		g.takes(1)
		want := replyTo(1, 1, 1, r.Op)
		b := datagram(t, want)
		p, ok := g.x.Receive(9, b)
		spoil(b)
		is(t, "whether it is an answer", ok, true)
		is(t, "whether the reply is its own", sameReply(p, want), true)
	}
}

// TestP18_8HandedOut: all that is handed out is spoilt; the sendings to come, and all else, are as if nothing had been.
func TestP18_8HandedOut(t *testing.T) {
	g := groundOf(t, 1, 3, usual)
	for i, r := range requests() {
		now := 1000 * i
		seq := g.sends(now, r)
		for k := range 5 {
			g.tick(now + 100*k)
			spoilWaiting(g.x.Waiting())
			g.holds()
			list := g.x.Take()
			is(t, "Take", slices.EqualFunc(list, g.w.out, bytes.Equal), true)
			g.w.out = nil
			spoilList(list)
		}
		b := datagram(t, replyTo(1, seq, 1, r.Op))
		p, ok := g.x.Receive(now+600, b)
		g.w.receive(now+600, b)
		is(t, "whether it is an answer", ok, true)
		spoilReply(p)
		g.holds()
	}
}

// TestP18_8Apart: two sendings of one request, in one Take or in two, are not one memory; nor is any list another one's.
func TestP18_8Apart(t *testing.T) {
	x := made(t, 1, 2, api.Params{Min: 1, First: 1, Max: 1})
	x.Send(0, requests()[4])
	x.Send(0, look("/"))
	for now := 1; now <= 10; now++ {
		x.Tick(now)
	}
	list := x.Take()
	x.Tick(11)
	list = append(list, x.Take()...)
	is(t, "how many are taken", len(list), 24)
	was := make([][]byte, len(list))
	for i, b := range list {
		was[i] = bytes.Clone(b)
	}
	for i, b := range list {
		spoil(b)
		is(t, "whether the others stay", slices.EqualFunc(list[i+1:], was[i+1:], bytes.Equal), true)
		copy(b, was[i])
	}
	one, two := x.Waiting(), x.Waiting()
	spoilWaiting(one)
	waits(t, x, two...)
}

// TestP18_8SpareRoom: behind a list's end, and behind a datagram's, stands nothing.
func TestP18_8SpareRoom(t *testing.T) {
	x := made(t, 1, 8, usual)
	for n := 1; n <= 8; n++ {
		x.Send(0, requests()[n])
		list := x.Waiting()
		for _, w := range list[len(list):cap(list)] {
			is(t, "the spare room of Waiting", w, api.Waiting{})
		}
		x.Tick(100 * n)
		all := x.Take()
		for _, b := range all[len(all):cap(all)] {
			is(t, "the spare room of Take", len(b), 0)
		}
		for _, b := range all {
			is(t, "whether a datagram's spare room is empty", bytes.Count(b[len(b):cap(b)], []byte{0}), cap(b)-len(b))
		}
	}
}

// TestP18_8SideBySide: transports, of one client too, do not hear of one another, also at the same time.
func TestP18_8SideBySide(t *testing.T) {
	var list []*ground
	for i := range 6 {
		list = append(list, groundOf(t, i/2, 1+i, usual))
	}
	for i := range 2000 {
		g := list[i*i%7%6]
		switch i % 4 {
		case 0:
			g.send(i, requests()[i%12])
		case 1:
			g.receive(i, datagram(t, replyTo(g.w.client, g.w.ack+1, 1+i%5, 1+i%10)))
		case 2:
			g.take()
		default:
			g.tick(i)
		}
		for _, g := range list {
			g.holds()
		}
	}
	var all sync.WaitGroup
	came := make([]int, 16)
	replies := make([][]byte, 501)
	for seq := 1; seq <= 500; seq++ {
		replies[seq] = found(t, 1, seq, 1)
	}
	for n := range came {
		all.Go(func() { came[n] = story(replies) })
	}
	all.Wait()
	for _, c := range came {
		is(t, "a transport beside others", c, came[0])
	}
}

// story leads a transport of its own, and tells a number for all that it sent.
func story(replies [][]byte) int {
	x := rtx.New(1, 4, usual)
	came := 0
	for now := range 2000 {
		x.Send(now, look("/"))
		x.Tick(now)
		if now%3 == 0 {
			x.Receive(now, replies[min(x.Ack()+1+now%2, 500)])
		}
		for _, b := range x.Take() {
			came = came*31 + int(b[len(b)-1])
		}
	}
	return came*31 + x.Ack()
}

// bytesInUse is what is in use behind a collection.
func bytesInUse() int {
	runtime.GC()
	var m runtime.MemStats
	runtime.ReadMemStats(&m)
	return int(m.HeapAlloc)
}

// TestP18_6NothingBehind: what was taken and answered leaves no memory in use, however much it was.
func TestP18_6NothingBehind(t *testing.T) {
	big := requests()[4]
	before := bytesInUse()
	x := made(t, 1, 8, api.Params{Min: 1, First: 1, Max: 1})
	for now := range 1 << 15 {
		x.Send(now, big)
		x.Tick(now)
		if now%8 == 7 {
			for range 8 {
				x.Receive(now, datagram(t, replyTo(1, x.Ack()+1, 1, api.Write)))
			}
		}
	}
	is(t, "whether what is to be sent takes much", bytesInUse()-before > 1<<25, true)
	x.Take()
	is(t, "whether what was taken takes little", bytesInUse()-before < 1<<17, true)
	runtime.KeepAlive(x)
}

// TestP18_5Room: many sendings of one request take the room of one till they are taken, and none behind that.
func TestP18_5Room(t *testing.T) {
	before := bytesInUse()
	x := made(t, 1, 1, api.Params{Min: 1, First: 1, Max: 1})
	x.Send(0, requests()[4])
	const many = 1 << 15
	for now := 1; now < many; now++ {
		x.Tick(now)
	}
	is(t, "whether the datagram is there once", bytesInUse()-before < many*100, true)
	x.Take()
	is(t, "whether the list's room has gone", bytesInUse()-before < 1<<17, true)
	runtime.KeepAlive(x)
}
