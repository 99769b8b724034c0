package net_test

import (
	"runtime"
	"sync"
	"testing"
	"weak"

	"annex/api"
	"annex/net"
)

// spoil writes over all that can be reached from a list, its spare room too, and appends to it.
func spoil(list []byte) {
	room := list[:cap(list)]
	for i := range room {
		room[i] ^= 0xff
	}
	_ = append(list, 1, 2, 3)
	_ = append(list[:0], 4)
}

// TestP20_7HandedIn: neither changed nor kept, its spare room neither.
func TestP20_7HandedIn(t *testing.T) {
	for many := range 40 {
		for spare := range 4 {
			g := groundOf(t)
			room := []byte(data(many+spare, 1))
			mine := room[:many]
			is(t, "Send", g.x.Send(api.Packet{To: 1, Data: mine}), g.lay(1, string(mine), nil))
			is(t, "Send again", g.x.Send(api.Packet{To: 2, Data: mine}), g.lay(2, string(mine), nil))
			g.copy(1)
			g.flip(1, 0, 9)
			g.flip(2, many-1, 7)
			is(t, "what was handed in", string(room), data(many+spare, 1))
			spoil(mine)
			g.holds()
			now := string(room)
			for _, no := range []int{1, 2, 3} {
				p, _ := g.x.Take(no)
				f, _ := g.remove(no)
				is(t, "Take's bytes", string(p.Data), f.bytes())
				spoil(p.Data)
				is(t, "what was handed in", string(room), now)
			}
		}
	}
}

// TestP20_7Lost: a datagram that is lost is not changed either.
func TestP20_7Lost(t *testing.T) {
	g := groundOf(t)
	g.fill()
	mine := []byte("abcdef")
	is(t, "Send", g.x.Send(api.Packet{To: 1, Data: mine[:3]}), 0)
	is(t, "what was handed in", string(mine), "abcdef")
	spoil(mine[:3])
	g.holds()
}

// TestP20_7Under: what a caller writes into a list, or into what it holds, no other one shows, and not the net.
func TestP20_7Under(t *testing.T) {
	for many := range 40 {
		g := groundOf(t)
		for n := range many {
			g.send(n, data(n, n))
			g.copy(n/2 + 1)
		}
		list, other := g.x.Under(), g.x.Under()
		for i := range list {
			spoil(list[i].Data)
			for j := i + 1; j < len(list); j++ {
				is(t, "a list's next one", string(list[j].Data), g.row[j].bytes())
			}
		}
		room := list[:cap(list)]
		for i := range room {
			room[i] = api.Flight{No: -1, To: -1, Data: []byte("x")}
		}
		_ = append(list, api.Flight{No: -2})
		_ = append(list[:0], api.Flight{No: -3})
		for i, f := range g.row {
			is(t, "another list's number", other[i].No, f.no)
			is(t, "another list's bytes", string(other[i].Data), f.bytes())
		}
		g.holds()
	}
}

// TestP20_7ListsStay: a list shows what was, whatever is done to the net later.
func TestP20_7ListsStay(t *testing.T) {
	g := groundOf(t)
	g.send(1, "abc")
	g.copy(1)
	list := g.x.Under()
	g.flip(1, 0, 1)
	g.flip(2, 1, 1)
	p, _ := g.x.Take(1)
	g.x.Drop(2)
	g.x.Send(api.Packet{To: 9, Data: []byte("xyz")})
	is(t, "how many the list has", len(list), 2)
	is(t, "its first one", string(list[0].Data), "abc")
	is(t, "its second one", string(list[1].Data), "abc")
	spoil(list[0].Data)
	is(t, "what was taken", string(p.Data), "`bc")
}

// TestP20_7Taken: what was taken is the taker's alone.
func TestP20_7Taken(t *testing.T) {
	for many := range 40 {
		g := groundOf(t)
		g.send(1, data(many, 3))
		for range 3 {
			g.copy(1)
		}
		seen := g.x.Under()
		p, _ := g.x.Take(2)
		g.remove(2)
		spoil(p.Data)
		g.holds()
		for _, f := range seen {
			is(t, "a list", string(f.Data), data(many, 3))
		}
		q, _ := g.x.Take(3)
		g.remove(3)
		is(t, "the next one taken", string(q.Data), data(many, 3))
		spoil(q.Data)
		g.send(1, data(many, 4))
		g.holds()
	}
}

// TestP20_7TakenStays: what was taken stays as it is, whatever is laid on its way behind it, and is not seen there.
func TestP20_7TakenStays(t *testing.T) {
	for many := range 40 {
		for next := range 40 {
			g := groundOf(t)
			g.send(1, data(many, 3))
			g.send(2, data(next, 4))
			p, _ := g.x.Take(1)
			g.remove(1)
			g.send(3, data(next, 5))
			g.copy(2)
			g.flip(3, 0, 1)
			g.flip(4, 0, 2)
			is(t, "what was taken", string(p.Data), data(many, 3))
			spoil(p.Data)
			g.holds()
		}
	}
}

// TestP20_7SpareRoom: behind an end stands nothing of what lies in the net, or lay there, or was handed in.
func TestP20_7SpareRoom(t *testing.T) {
	for many := range 80 {
		x := net.New()
		mine := []byte(data(many+50, 1))
		for i := range mine {
			mine[i] |= 1
		}
		for range 5 {
			x.Send(api.Packet{To: 1, Data: mine[:many]})
		}
		x.Drop(3)
		list := x.Under()
		for _, f := range list[len(list):cap(list)] {
			is(t, "the spare room of the list", f.No == 0 && f.To == 0 && f.Data == nil, true)
		}
		p, _ := x.Take(2)
		for _, d := range [][]byte{p.Data, list[0].Data, list[3].Data} {
			for _, b := range d[len(d):cap(d)] {
				is(t, "the spare room", b, 0)
			}
		}
	}
}

// sent lays so many on their way, and tells the memory that was handed in, in a way that does not hold it.
func sent(x *net.Net, many, from, to int) []weak.Pointer[byte] {
	var list []weak.Pointer[byte]
	for range many {
		d := make([]byte, 5000)
		x.Send(api.Packet{Data: d[from:to]})
		list = append(list, weak.Make(&d[0]))
	}
	return list
}

// TestP20_7NothingKept: no memory that was handed in is held, of a packet without bytes neither.
func TestP20_7NothingKept(t *testing.T) {
	x := net.New()
	all := sent(x, 20, 0, 5000)
	all = append(all, sent(x, 20, 0, 0)...)
	all = append(all, sent(x, 20, 17, 17)...)
	runtime.GC()
	for _, p := range all {
		is(t, "whether it is held", p.Value() != nil, false)
	}
	is(t, "how many are under way", len(x.Under()), 60)
}

// bytesInUse is what is in use behind a collection.
func bytesInUse() int {
	runtime.GC()
	var m runtime.MemStats
	runtime.ReadMemStats(&m)
	return int(m.HeapAlloc)
}

// TestP20_7NothingBehind: of what was taken, dropped or lost the net has nothing any more.
func TestP20_7NothingBehind(t *testing.T) {
	before := bytesInUse()
	x := net.New()
	big := make([]byte, 1<<16)
	for n := range 2000 {
		no := x.Send(api.Packet{Data: big})
		two, _ := x.Copy(no)
		if n%2 == 0 {
			no, two = two, no
		}
		x.Drop(no)
		x.Take(two)
	}
	for range api.MaxUnder {
		x.Send(api.Packet{})
	}
	for range 2000 {
		x.Send(api.Packet{Data: big})
	}
	is(t, "whether it takes little", bytesInUse()-before < 1<<22, true)
	runtime.KeepAlive(x)
}

// TestP20_7SideBySide: nets do not hear of one another, also at the same time.
func TestP20_7SideBySide(t *testing.T) {
	list := []*ground{groundOf(t), groundOf(t), groundOf(t), groundOf(t)}
	for i := range 3000 {
		g := list[i*i%7%4]
		no := i%g.givenOrOne() + 1
		switch i % 6 {
		case 0:
			g.take(no)
		case 1:
			g.drop(no)
		case 2:
			g.copy(no)
		case 3:
			g.flip(no, i%4, i%256)
		default:
			g.send(i%5, data(i%5, i))
		}
		if i%50 == 0 {
			for _, g := range list {
				g.holds()
			}
		}
	}
	var all sync.WaitGroup
	sums := make([]int, 16)
	for n := range sums {
		all.Go(func() { sums[n] = sumOfStory() })
	}
	all.Wait()
	for _, s := range sums {
		is(t, "a net beside others", s, sumOfStory())
	}
}

func (g *ground) givenOrOne() int { return max(g.given, 1) }

// sumOfStory is a number for all that a net of its own answers.
func sumOfStory() int {
	x := net.New()
	sum := 0
	add := func(n int) { sum = sum*31 + n }
	for i := range 600 {
		add(x.Send(api.Packet{To: i, Data: []byte(data(i%7, i))}))
		no, code := x.Copy(i / 2)
		add(no + int(code))
		add(int(x.Flip(i/3, i%5, i%300)))
		add(int(x.Drop(i / 4 * 3)))
		p, code := x.Take(i)
		add(p.To + len(p.Data) + int(code))
	}
	for _, f := range x.Under() {
		add(f.No)
		for _, b := range f.Data {
			add(int(b))
		}
	}
	return sum
}
