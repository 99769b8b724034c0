package world_test

import (
	"bytes"
	"fmt"
	"math"
	"strings"
	"testing"

	"annex/api"
	"annex/device"
	"annex/msg"
	"annex/server"
	"annex/world"
)

// TestP22_1New: there is a world just where the shape and the params may be.
func TestP22_1New(t *testing.T) {
	for i := range 8 {
		for _, n := range []int{math.MinInt, -1, 0, 1, 2, 8, 9, 26, 27, 64, 65, 256, 257, 512, 513, 4097, api.MaxQuota + 1, math.MaxInt} {
			s := pairOf
			*[]*int{&s.Clients, &s.Window, &s.Places, &s.Cache, &s.Inodes, &s.Quota, &s.Data, &s.Journal}[i] = n
			_, code := server.Format(s)
			is(t, fmt.Sprintf("whether there is a world of %+v", s), world.New(s, usual) != nil, code == api.OK)
		}
	}
	for _, n := range [][3]int{{1, 1, 1}, {1, 1, api.MaxTicks}, {api.MaxTicks, api.MaxTicks, api.MaxTicks}, {1, 2, 3}} {
		p := api.Params{Min: n[0], First: n[1], Max: n[2]}
		is(t, fmt.Sprintf("whether there is a world of %+v", p), world.New(pairOf, p) != nil, true)
	}
	for _, n := range [][3]int{{}, {0, 1, 1}, {2, 1, 3}, {1, 3, 2}, {1, 1, api.MaxTicks + 1}, {-1, 8, 64}, {math.MinInt, 1, math.MaxInt}} {
		p := api.Params{Min: n[0], First: n[1], Max: n[2]}
		is(t, fmt.Sprintf("whether there is a world of %+v", p), world.New(pairOf, p) != nil, false)
	}
	is(t, "whether there is a world of nothing", world.New(api.Shape{}, api.Params{}) != nil, false)
}

// TestP22_1Begins: the device is Format's behind the first boot, nothing is under way, and the time is 0.
func TestP22_1Begins(t *testing.T) {
	for _, s := range shapes() {
		image, _ := server.Format(s)
		d, _ := device.Image(image)
		_, code := server.Open(d)
		is(t, "Open", code, api.OK)
		g := groundOf(t, s, usual)
		g.holds()
		is(t, "the time", g.w.Now(), 0)
		is(t, "how many are under way", len(g.w.Under()), 0)
		is(t, "what lasts", bytes.Equal(g.w.Durable(), d.Durable()), true)
		want := "server 1 1 0;mark -1 0 1"
		for c := range s.Clients {
			want += fmt.Sprintf(";mark %d 0 0", c)
		}
		g.tells("look", want)
	}
}

// TestP22_1Windows: each client has the shape's window, its own number, and the params.
func TestP22_1Windows(t *testing.T) {
	for window := 1; window <= 8; window++ {
		s := api.Shape{Clients: 3, Window: window, Places: 1, Cache: 1, Inodes: 2, Quota: 0, Data: 8, Journal: 27}
		g := groundOf(t, s, api.Params{Min: 2, First: 5, Max: 9})
		no := 0
		for c := range 3 {
			for n := range window {
				no++
				g.tells(fmt.Sprintf("call %d lookup /", c), fmt.Sprintf("started %d %d lookup /;sent %d %d", c, n+1, c, no))
			}
			g.refuses(api.Op{Kind: api.OpCall, A: c, Call: api.Call{Op: api.Lookup, Path: "/"}}, c, 0, api.ErrWindowFull)
		}
		g.tells("tick 4", "")
		var again []string
		for c := range 3 {
			for range window {
				no++
				again = append(again, fmt.Sprintf("sent %d %d", c, no))
			}
		}
		g.tells("tick 1", strings.Join(again, ";"))
		g.tells("tick 8", "")
		is(t, "how many are sent at the greatest wait", strings.Count(g.does("tick 1"), "sent"), 3*window)
	}
}

// aCall is a step that may be done by a client, if its window is not full.
func aCall(a int) api.Op {
	return api.Op{Kind: api.OpCall, A: a, Call: api.Call{Op: api.Lookup, Path: "/"}}
}

// TestP22_2NoStep: a kind that is none of 1 to 14, whatever else the step has.
func TestP22_2NoStep(t *testing.T) {
	g := groundOf(t, pairOf, usual)
	g.does("call 0 lookup /")
	for _, kind := range append(edges(), 15, 16, 255, 256, 257, 1<<32+1) {
		if 1 <= kind && kind <= 14 {
			continue
		}
		g.refuses(api.Op{Kind: kind}, 0, 0, api.ErrStep)
		g.refuses(api.Op{Kind: kind, A: 1, K: 1, M: 1, X: 1, Call: api.Call{Op: 1, Path: "/"}, Data: []byte{1}, Keep: []bool{true}}, 0, 0, api.ErrStep)
	}
	is(t, "the number of the error", int(g.w.Step(api.Op{})[0].Code), 222)
}

// TestP22_2Numbers: each step with each number at its edges, on a world in which something is under way.
func TestP22_2Numbers(t *testing.T) {
	for kind := 1; kind <= 14; kind++ {
		for _, n := range append(edges(), 4, 5, 6, 7, 8) {
			g := groundOf(t, pairOf, usual)
			g.does("call 0 lookup /;call 1 lookup /;copy 2;give 1;junk 1 \"\"")
			for _, o := range []api.Op{
				{Kind: kind, A: n, K: 1, M: 1, X: 1, Call: aCall(0).Call},
				{Kind: kind, A: 1, K: n, M: 1, X: 1, Call: aCall(0).Call},
				{Kind: kind, A: 1, K: 2, M: n, X: 1, Call: aCall(0).Call},
				{Kind: kind, A: 1, K: 2, M: 1, X: n, Call: aCall(0).Call},
			} {
				g.step(o)
				g.holds()
			}
		}
	}
}

// TestP22_2Spare: what a kind does not have says nothing, and an event that it is refused with has nothing of it.
func TestP22_2Spare(t *testing.T) {
	spare := func(o api.Op, a, k bool) api.Op {
		if !a {
			o.A = 77
		}
		if !k {
			o.K = 88
		}
		return o
	}
	g := groundOf(t, pairOf, usual)
	g.refuses(spare(aCall(2), true, false), 2, 0, api.ErrArg)
	g.refuses(spare(api.Op{Kind: api.OpClose, A: 2, K: 5}, true, true), 2, 5, api.ErrArg)
	g.refuses(spare(api.Op{Kind: api.OpTick, K: 1001}, false, true), 0, 1001, api.ErrArg)
	g.refuses(spare(api.Op{Kind: api.OpServe, K: -3}, false, true), 0, -3, api.ErrArg)
	g.refuses(spare(api.Op{Kind: api.OpGive, K: 3}, false, true), 0, 3, api.ErrFlight)
	g.refuses(spare(api.Op{Kind: api.OpDrop, K: 4}, false, true), 0, 4, api.ErrFlight)
	g.refuses(spare(api.Op{Kind: api.OpCopy, K: 5}, false, true), 0, 5, api.ErrFlight)
	g.refuses(spare(api.Op{Kind: api.OpFlip, K: 6, M: 5, X: 4}, false, true), 0, 6, api.ErrFlight)
	g.refuses(spare(api.Op{Kind: api.OpJunk, A: -2, Data: []byte{1}}, true, false), -2, 0, api.ErrArg)
	g.refuses(spare(api.Op{Kind: api.OpArm, K: -1}, false, true), 0, -1, api.ErrArg)
	g.refuses(spare(api.Op{Kind: api.OpBoot}, false, false), 0, 0, api.ErrIsUp)
	g.refuses(spare(api.Op{Kind: api.OpRun, K: 101}, false, true), 0, 101, api.ErrArg)
	is(t, "the number of the error", int(g.w.Step(api.Op{Kind: api.OpBoot})[0].Code), 221)
	for kind := 1; kind <= 14; kind++ { // what is spare alone refuses nothing
		o := spare(api.Op{Kind: kind}, kind == api.OpCall || kind == api.OpClose || kind == api.OpJunk, false)
		o.Data, o.Keep, o.M, o.X, o.Call = []byte{1}, []bool{true}, 1, 2, aCall(0).Call
		switch kind {
		case api.OpTick, api.OpServe, api.OpRun, api.OpArm:
			o.K = 1
		case api.OpClose, api.OpGive, api.OpDrop, api.OpCopy, api.OpFlip:
			continue
		}
		g := groundOf(t, pairOf, usual)
		for _, e := range g.step(o) {
			is(t, fmt.Sprintf("whether %+v is refused", o), e.Kind == api.EvRefused, kind == api.OpBoot)
		}
	}
}

// TestP22_4Call: no client; what the client refuses; what it sends, and ends at once.
func TestP22_4Call(t *testing.T) {
	g := groundOf(t, pairOf, usual)
	for _, a := range []int{math.MinInt, -2, -1, 2, 3, 8, math.MaxInt} {
		g.refuses(aCall(a), a, 0, api.ErrArg)
		g.refuses(api.Op{Kind: api.OpCall, A: a}, a, 0, api.ErrArg)
	}
	for _, c := range []struct {
		call api.Call
		code api.Errno
	}{
		{api.Call{}, api.ErrArg},
		{api.Call{Op: 11}, api.ErrArg},
		{api.Call{Op: api.Lookup, Path: "a"}, api.ErrPath},
		{api.Call{Op: api.Lookup, Path: "/a", H: 1}, api.ErrArg},
		{api.Call{Op: api.Getattr}, api.ErrHandle},
	} {
		g.refuses(api.Op{Kind: api.OpCall, A: 1, Call: c.call}, 1, 0, c.code)
	}
	g.tells("call 1 lookup /", "started 1 1 lookup /;sent 1 1")
	g.tells("call 1 lookup /a/b", "started 1 2 lookup /a/b;sent 1 2")
	g.refuses(aCall(1), 1, 0, api.ErrWindowFull)
	g.tells("call 0 lookup /", "started 0 1 lookup /;sent 0 3")
	g.tells("run 1", "sent -1 4;sent -1 5;sent -1 6;served 4;returned 0 1 1 0 0 256 2 0 1 0 \"\";returned 1 1 1 0 0 256 2 0 1 0 \"\";returned 1 2 1 121 0 0 0 0 0 0 \"\"")
	g.refuses(api.Op{Kind: api.OpCall, A: 0, Call: api.Call{Op: api.Create, Name: "."}}, 0, 0, api.ErrName)
	g.tells("call 0 create 0 a", "started 0 2 create 0 a;sent 0 7")
}

// TestP22_4TheCallItself: the event has the call whole.
func TestP22_4TheCallItself(t *testing.T) {
	g := groundOf(t, crowd, usual)
	g.does("call 3 lookup /;run 1;call 3 create 0 x;run 1")
	for n, call := range goodCalls(0, 1) {
		list := g.step(api.Op{Kind: api.OpCall, A: 3, Call: call})
		is(t, "how many events there are", len(list), 2)
		is(t, "the first", same(list[0], api.Event{Kind: api.EvStarted, A: 3, K: n + 3, Call: call}), true)
		g.does("run 1")
	}
}

// goodCalls are calls of each operation that no client refuses: d is a directory's handle, f any.
func goodCalls(d, f int) []api.Call {
	return []api.Call{
		{Op: api.Lookup, Path: "/"},
		{Op: api.Lookup, Path: "/a"},
		{Op: api.Getattr, H: f},
		{Op: api.Read, H: f, Off: 0, Len: 7},
		{Op: api.Read, H: f, Off: 300, Len: api.MaxIO},
		{Op: api.Write, H: f, Off: 0, Data: []byte("hello")},
		{Op: api.Write, H: f, Off: 70, Data: bytes.Repeat([]byte{0, 255, '"'}, 100)},
		{Op: api.Create, H: d, Name: "a"},
		{Op: api.Create, H: d, Name: "b c"},
		{Op: api.Mkdir, H: d, Name: "d"},
		{Op: api.Mkdir, H: d, Name: "e"},
		{Op: api.Remove, H: d, Name: "a"},
		{Op: api.Rmdir, H: d, Name: "d"},
		{Op: api.Rename, H: d, Name: "a", H2: d, Name2: "b"},
		{Op: api.Rename, H: d, Name: "b", H2: f, Name2: "a"},
		{Op: api.Readdir, H: d, Len: api.MaxList},
		{Op: api.Readdir, H: d, Name: "a", Len: 1},
	}
}

// TestP22_4Close: no client; no handle; a handle is closed once.
func TestP22_4Close(t *testing.T) {
	g := groundOf(t, pairOf, usual)
	g.does("call 1 lookup /;run 1")
	for _, a := range []int{-1, 2, math.MaxInt, math.MinInt} {
		g.refuses(api.Op{Kind: api.OpClose, A: a}, a, 0, api.ErrArg)
	}
	g.refuses(api.Op{Kind: api.OpClose, A: 0}, 0, 0, api.ErrHandle)
	for _, h := range []int{-1, 1, 63, 64, math.MaxInt} {
		g.refuses(api.Op{Kind: api.OpClose, A: 1, K: h}, 1, h, api.ErrHandle)
	}
	g.tells("look", "server 1 1 0;mark -1 0 1;mark 0 0 0;mark 1 0 0;"+g.keptLines()+"handle 1 0 256 1 /")
	g.tells("close 1 0", "")
	g.tells("look", "server 1 1 0;mark -1 0 1;mark 0 0 0;mark 1 0 0;"+strings.TrimSuffix(g.keptLines(), ";"))
	g.refuses(api.Op{Kind: api.OpClose, A: 1, K: 0}, 1, 0, api.ErrHandle)
}

// keptLines are the lines of the kept replies.
func (g *ground) keptLines() string {
	lines := ""
	for _, k := range g.told.v.Kept() {
		lines += fmt.Sprintf("kept %d %d %d %x;", k.Client, k.Seq, k.Stamp, k.Data)
	}
	return lines
}

// TestP22_4Tick: from 1 to 1000 ticks; at each tick each client in turn, from 0 on, so that what goes out at one tick lies ahead of what goes out at the next one.
func TestP22_4Tick(t *testing.T) {
	g := groundOf(t, pairOf, api.Params{Min: 1, First: 1, Max: 2})
	g.does("call 1 lookup /;call 1 lookup /a;call 0 lookup /")
	g.tells("tick 3", "sent 0 4;sent 1 5;sent 1 6;sent 0 7;sent 1 8;sent 1 9")
	is(t, "the time", g.w.Now(), 3)
	for _, k := range []int{math.MinInt, -1, 0, 1001, math.MaxInt} {
		g.refuses(api.Op{Kind: api.OpTick, K: k}, 0, k, api.ErrArg)
	}
	is(t, "the time behind those that are refused", g.w.Now(), 3)
	for i, f := range g.w.Under() {
		r, code := msg.DecodeRequest(f.Data)
		is(t, "a request", code, api.OK)
		is(t, "where it goes", f.To, api.ToServer)
		is(t, "who sent it", r.Client, []int{1, 1, 0, 0, 1, 1, 0, 1, 1}[i])
	}
	g = groundOf(t, pairOf, usual)
	g.tells("tick 1000", "")
	is(t, "the time", g.w.Now(), 1000)
	g.tells("tick 1;tick 999", "")
	is(t, "the time", g.w.Now(), 2000)
}

// TestP22_4Serve: from 1 to 1000 steps of a server that is up; those that find nothing count too.
func TestP22_4Serve(t *testing.T) {
	g := groundOf(t, pairOf, usual)
	for _, k := range []int{math.MinInt, -1, 0, 1001, math.MaxInt} {
		g.refuses(api.Op{Kind: api.OpServe, K: k}, 0, k, api.ErrArg)
	}
	g.tells("serve 1000", "served 1000")
	g.does("call 0 lookup /;call 0 lookup /;call 1 lookup /;give 1;give 2;give 3")
	g.tells("serve 2", "sent -1 4;sent -1 5;served 2")
	is(t, "to whom the first one goes", g.w.Under()[0].To, 0)
	is(t, "to whom the second one goes", g.w.Under()[1].To, 1)
	g.tells("serve 3", "sent -1 6;served 3")
	g.does("crash \"\"")
	g.refuses(api.Op{Kind: api.OpServe, K: 1}, 0, 1, api.ErrDown)
	for _, k := range []int{-1, 0, 1001} { // the argument ahead of the server
		g.refuses(api.Op{Kind: api.OpServe, K: k}, 0, k, api.ErrArg)
	}
}

// TestP22_4ServeEnds: the power fails at each write and flush of some steps: those ahead of it were served, their packets are under way, and what pends is told.
func TestP22_4ServeEnds(t *testing.T) {
	whole, ends := false, map[string]int{}
	for k := 1; !whole; k++ {
		g := groundOf(t, pairOf, usual)
		g.does("call 0 lookup /;call 0 lookup /;call 1 lookup /;give 1;give 2;give 3")
		g.step(api.Op{Kind: api.OpArm, K: k})
		lines := strings.Split(g.does("serve 5"), "\n")
		pending := len(g.told.d.Pending())
		if whole = g.told.up; whole {
			is(t, "served", strings.Join(lines, ";"), "sent -1 4;sent -1 5;sent -1 6;served 5")
			break
		}
		many := len(lines) - 2
		ends[lines[many]]++
		for i := range many {
			is(t, "a packet", lines[i], fmt.Sprintf("sent -1 %d", 4+i))
		}
		is(t, "the last two lines", strings.Join(lines[many:], ";"), fmt.Sprintf("served %d;down 3 %d 0", many, pending))
		g.refuses(api.Op{Kind: api.OpServe, K: 1}, 0, 1, api.ErrDown)
		g.refuses(api.Op{Kind: api.OpArm, K: 0}, 0, 0, api.ErrPower)
		g.refuses(api.Op{Kind: api.OpBoot}, 0, 0, api.ErrPower)
		g.tells("look", "server 0 0 0"+flightLines(g))
		g.tells("crash \"\"", fmt.Sprintf("down 0 %d 0", pending))
		g.tells("boot", "up 2")
	}
	is(t, "how many were served where it failed", len(ends), 3)
}

func flightLines(g *ground) string {
	lines := ""
	for _, f := range g.told.row {
		lines += fmt.Sprintf(";flight %d %d %x", f.No, f.To, f.Data)
	}
	return lines
}

// TestP22_4Give: no such number; to a client; to a server that is up, and to one that is not.
func TestP22_4Give(t *testing.T) {
	g := groundOf(t, pairOf, usual)
	g.does("call 0 lookup /;copy 1;copy 1;copy 1")
	for _, no := range []int{math.MinInt, -1, 0, 5, math.MaxInt} {
		g.refuses(api.Op{Kind: api.OpGive, K: no}, 0, no, api.ErrFlight)
	}
	g.tells("give 3", "")
	g.refuses(api.Op{Kind: api.OpGive, K: 3}, 0, 3, api.ErrFlight)
	g.tells("serve 1", "sent -1 5;served 1")
	g.tells("give 1", "sent -1 6") // the kept reply, at once
	g.tells("give 6", "returned 0 1 1 0 0 256 2 0 1 0 \"\"")
	g.tells("give 5", "") // nobody waits for it
	g.does("crash 1")
	g.tells("give 4", "")
	is(t, "how many are under way", len(g.w.Under()), 1)
	g.does("boot;give 2")
	is(t, "how many are under way", len(g.w.Under()), 1) // the kept reply
	g.tells("give 7", "")
}

// TestP22_4GiveSends: what a client sends when a datagram has come, it sends ahead of telling its results.
func TestP22_4GiveSends(t *testing.T) {
	g := groundOf(t, pairOf, usual)
	g.does("call 0 lookup /;call 0 lookup /a;give 1;give 2;serve 2")
	g.tells("give 4", "returned 0 2 1 121 0 0 0 0 0 0 \"\"")
	g.tells("call 0 lookup /b", "started 0 3 lookup /b") // the window is closed
	g.tells("give 3", "sent 0 5;returned 0 1 1 0 0 256 2 0 1 0 \"\"")
	g.tells("run 1", "sent -1 6;served 4;returned 0 3 1 121 0 0 0 0 0 0 \"\"")

	g.does("crash \"\";boot;call 0 getattr 0;call 0 getattr 0;give 7;give 8")
	g.tells("give 10", "")                   // the second one's: it wants to send, and the window is closed
	g.tells("give 9", "sent 0 11;sent 0 12") // both look the path up again, the second one first
	g.tells("give 11;give 12;serve 2", "sent -1 13;sent -1 14;served 2")
	g.tells("give 14", "")
	g.tells("give 13", "sent 0 15;sent 0 16")
	g.tells("run 1", "sent -1 17;sent -1 18;served 4;returned 0 4 2 0 0 256 2 0 1 0 \"\";returned 0 5 2 0 0 256 2 0 1 0 \"\"")
}

// TestP22_4Drop: no such number; a dropped one comes never.
func TestP22_4Drop(t *testing.T) {
	g := groundOf(t, pairOf, usual)
	g.does("call 0 lookup /;copy 1")
	for _, no := range []int{math.MinInt, -1, 0, 3, math.MaxInt} {
		g.refuses(api.Op{Kind: api.OpDrop, K: no}, 0, no, api.ErrFlight)
	}
	g.tells("drop 1", "")
	for _, o := range []api.Op{{Kind: api.OpDrop, K: 1}, {Kind: api.OpGive, K: 1}, {Kind: api.OpCopy, K: 1}, {Kind: api.OpFlip, K: 1, X: 1}} {
		g.refuses(o, 0, 1, api.ErrFlight)
	}
	is(t, "how many are under way", len(g.w.Under()), 1)
	g.tells("serve 1", "served 1")
}

// TestP22_4CopyAndFlip: the number of the copy; a flip is of one alone.
func TestP22_4CopyAndFlip(t *testing.T) {
	g := groundOf(t, pairOf, usual)
	for _, no := range []int{math.MinInt, -1, 0, 1, math.MaxInt} {
		g.refuses(api.Op{Kind: api.OpCopy, K: no}, 0, no, api.ErrFlight)
		g.refuses(api.Op{Kind: api.OpFlip, K: no, M: -1, X: 0}, 0, no, api.ErrFlight)
	}
	g.does("junk server 00ff10;junk 1 \"\"")
	g.tells("copy 1", "sent -2 3")
	g.tells("flip 1 2 255;flip 3 0 1", "")
	g.tells("copy 2", "sent -2 4")
	g.tells("look", "server 1 1 0;mark -1 0 1;mark 0 0 0;mark 1 0 0;flight 1 -1 00ffef;flight 2 1 \"\";flight 3 -1 01ff10;flight 4 1 \"\"")
	for _, at := range []int{math.MinInt, -1, 3, 4, math.MaxInt} {
		g.refuses(api.Op{Kind: api.OpFlip, K: 1, M: at, X: 0}, 0, 1, api.ErrAt)
	}
	for _, x := range []int{math.MinInt, -1, 0, 256, 257, math.MaxInt} {
		g.refuses(api.Op{Kind: api.OpFlip, K: 1, M: 2, X: x}, 0, 1, api.ErrSame)
	}
	g.refuses(api.Op{Kind: api.OpFlip, K: 2, M: 0, X: 1}, 0, 2, api.ErrAt)
	g.tells("flip 1 2 255", "")
	is(t, "the bytes", string(g.w.Under()[0].Data), "\x00\xff\x10")
}

// TestP22_4Junk: neither the server nor a client; any bytes, none too.
func TestP22_4Junk(t *testing.T) {
	for _, s := range shapes() {
		g := groundOf(t, s, usual)
		for _, to := range []int{math.MinInt, -3, -2, s.Clients, s.Clients + 1, math.MaxInt} {
			g.refuses(api.Op{Kind: api.OpJunk, A: to, Data: []byte{1}}, to, 0, api.ErrArg)
		}
		no := 0
		for to := -1; to < s.Clients; to++ {
			for _, data := range [][]byte{nil, {}, {0}, []byte("ANQ1"), make([]byte, 1400), make([]byte, 5000)} {
				no++
				list := g.step(api.Op{Kind: api.OpJunk, A: to, Data: data})
				is(t, "junk", shown(list), fmt.Sprintf("sent -2 %d", no))
				f := g.w.Under()[no-1]
				is(t, "where it goes", f.To, to)
				is(t, "its bytes", string(f.Data), string(data))
			}
		}
		for ; no > 0; no-- {
			is(t, "junk that arrives", shown(g.step(api.Op{Kind: api.OpGive, K: no})), "")
		}
		g.holds()
	}
}

// TestP22_4JunkThatIsValid: junk may be a datagram that somebody else has sent, or would; it comes to the one that it goes to, and to nobody else.
func TestP22_4JunkThatIsValid(t *testing.T) {
	g := groundOf(t, pairOf, usual)
	g.does("call 0 lookup /")
	request := g.w.Under()[0].Data
	g.does("give 1;serve 1")
	reply := g.w.Under()[0].Data
	g = groundOf(t, pairOf, usual)
	junk := func(to int, data []byte) string {
		no := g.told.given + 1
		is(t, "junk", shown(g.step(api.Op{Kind: api.OpJunk, A: to, Data: data})), fmt.Sprint("sent -2 ", no))
		return g.does(fmt.Sprint("give ", no))
	}
	is(t, "a request that comes to a client", junk(0, request), "")
	is(t, "a request that comes to another client", junk(1, request), "")
	g.tells("look", "server 1 1 0;mark -1 0 1;mark 0 0 0;mark 1 0 0")
	is(t, "a reply for which nobody waits", junk(0, reply), "")
	is(t, "a reply that comes to the server", junk(-1, reply), "")
	is(t, "a request that its client has not sent", junk(-1, request), "")
	g.tells("look", "server 1 1 1;mark -1 0 1;mark 0 0 1;mark 1 0 0")
	g.tells("serve 1;drop 6", "sent -1 6;served 1")
	g.does("call 0 lookup /;call 1 lookup /")
	is(t, "a reply that comes to the server", junk(-1, reply), "")
	is(t, "a reply that comes to another client", junk(1, reply), "")
	is(t, "a reply that the server has not sent", junk(0, reply), "returned 0 1 1 0 0 256 2 0 1 0 \"\"")
	is(t, "the request, which the server knows", junk(-1, request), "sent -1 13")
}

// TestP22_4Lost: with 4096 under way whatever is sent is lost, and the event says so.
func TestP22_4Lost(t *testing.T) {
	g := groundOf(t, pairOf, api.Params{Min: 1, First: 1, Max: 1})
	g.does("call 0 lookup /;give 1;serve 1;copy 2;give 2")
	g.does("call 0 lookup /")
	for n := len(g.w.Under()); n < 4096; n++ {
		g.step(api.Op{Kind: api.OpJunk, A: n%3 - 1})
	}
	is(t, "how many are under way", len(g.w.Under()), 4096)
	g.tells("junk 0 00", "sent -2 0")
	g.tells("copy 3", "sent -2 0")
	g.tells("tick 2", "sent 0 0;sent 0 0")
	g.tells("call 1 lookup /", "started 1 1 lookup /;sent 1 0")
	g.tells("give 4;serve 1", "sent -1 4099;served 1") // the request that was given has made room
	g.tells("tick 1", "sent 0 0;sent 1 0")
	g.tells("give 3", "")
	g.tells("tick 1", "sent 0 4100;sent 1 0")
	g.tells("serve 1", "served 1")
	is(t, "how many are under way", len(g.w.Under()), 4096)
	list := g.step(api.Op{Kind: api.OpRun, K: 1})
	is(t, "how many events a run has", len(list) > 2, true)
	g.holds()
}

// TestP22_4Arm: the device's errors; the power fails then, and not ahead of that.
func TestP22_4Arm(t *testing.T) {
	g := groundOf(t, pairOf, usual)
	for _, k := range []int{math.MinInt, -1} {
		g.refuses(api.Op{Kind: api.OpArm, K: k}, 0, k, api.ErrArg)
	}
	g.tells("arm 1;arm 0;call 0 lookup /;run 1", "started 0 1 lookup /;sent 0 1;sent -1 2;served 4;returned 0 1 1 0 0 256 2 0 1 0 \"\"")
	g.tells("arm 1;crash \"\";boot", "down 0 0 0;up 2") // a crash disarms
	g.tells("arm 1;call 1 lookup /;run 1", "started 1 1 lookup /;sent 1 3;served 0;down 3 0 0")
	g.refuses(api.Op{Kind: api.OpArm, K: 5}, 0, 5, api.ErrPower)
	g.refuses(api.Op{Kind: api.OpArm, K: -5}, 0, -5, api.ErrArg)
}

// TestP22_4Crash: whether a server is up or not, and whether the power is on or off; how many pended and how many survived.
func TestP22_4Crash(t *testing.T) {
	g := groundOf(t, pairOf, usual)
	g.tells("crash 111", "down 0 0 0")
	g.tells("crash \"\"", "down 0 0 0")
	g.does("boot")
	for _, c := range []struct {
		keep string
		many int
	}{{`""`, 0}, {"0", 0}, {"1", 1}, {"01", 1}, {"11", 2}, {"110", 2}, {"0101", 2}, {"0000", 0}, {"00001", 0}, {"1111", 4}, {"11111111", 4}} {
		g := groundOf(t, pairOf, usual)
		g.tells("call 0 lookup /;give 1;arm 5;serve 1", "started 0 1 lookup /;sent 0 1;served 0;down 3 4 0")
		before := g.w.Durable()
		g.tells("crash "+c.keep, fmt.Sprintf("down 0 4 %d", c.many))
		is(t, "whether the device has changed", bytes.Equal(before, g.w.Durable()), !strings.Contains(c.keep[:min(2, len(c.keep))], "1")) // the last two are zeros over zeros
		g.tells("crash 1111", "down 0 0 0")
		g.tells("boot", "up 2")
	}
}

// TestP22_4Boot: not while a server is up; not without power, nor where it fails on the way: then the device keeps what it has met, and the next boot makes good.
func TestP22_4Boot(t *testing.T) {
	g := groundOf(t, pairOf, usual)
	g.refuses(api.Op{Kind: api.OpBoot}, 0, 0, api.ErrIsUp)
	epochs := map[string]int{}
	for k := 1; ; k++ {
		for _, keep := range []string{`""`, "1", "01", "11", "111"} {
			g := groundOf(t, pairOf, usual)
			g.does("call 0 lookup /;give 1;serve 1;crash \"\"")
			g.step(api.Op{Kind: api.OpArm, K: k})
			list := g.step(api.Op{Kind: api.OpBoot})
			g.holds()
			if list[0].Kind == api.EvUp {
				is(t, "the boot", shown(list), "up 2")
				is(t, "whether the power has failed on some way", k > 4 && len(epochs) == 2, true)
				return
			}
			is(t, "the boot", shown(list), "refused 0 0 3")
			g.refuses(api.Op{Kind: api.OpBoot}, 0, 0, api.ErrPower)
			g.refuses(api.Op{Kind: api.OpServe, K: 1}, 0, 1, api.ErrDown)
			pending := len(g.told.d.Pending())
			is(t, "the crash", strings.HasPrefix(g.does("crash "+keep), fmt.Sprintf("down 0 %d ", pending)), true)
			epochs[g.does("boot")]++
		}
	}
}

// TestP22_4Run: the order of what a run does: ticks, what is under way comes, the server serves, what is under way then comes; what is sent by that stays.
func TestP22_4Run(t *testing.T) {
	g := groundOf(t, pairOf, api.Params{Min: 1, First: 1, Max: 1})
	for _, k := range []int{math.MinInt, -1, 0, 101, math.MaxInt} {
		g.refuses(api.Op{Kind: api.OpRun, K: k}, 0, k, api.ErrArg)
	}
	is(t, "the time", g.w.Now(), 0)
	g.does("call 1 lookup /;call 0 lookup /")
	g.tells("run 1", "sent 0 3;sent 1 4;"+ // the tick
		"sent -1 5;sent -1 6;served 4;"+ // 3 and 4 are known already: the server's clients in turn
		"returned 0 1 1 0 0 256 2 0 1 0 \"\";returned 1 1 1 0 0 256 2 0 1 0 \"\"")
	is(t, "the time", g.w.Now(), 1)
	is(t, "how many are under way", len(g.w.Under()), 0)
	g.does("crash \"\";boot;call 0 getattr 0;call 1 create 0 a")
	g.tells("run 1", "sent 0 9;sent 1 10;"+ // the tick
		"sent -1 11;sent -1 12;sent -1 13;sent -1 14;"+ // each is of epoch 1
		"served 4;sent 0 15;sent 1 16") // the paths are looked up again: later
	is(t, "how many are under way", len(g.w.Under()), 2)
	g.tells("run 1", "sent 0 17;sent 1 18;sent -1 19;sent -1 20;served 4;sent 0 21;sent 1 22")
	g.tells("crash \"\"", "down 0 0 0")
	g.tells("run 2", "sent 0 23;sent 1 24;sent 0 25;sent 1 26") // nobody serves
	is(t, "how many are under way", len(g.w.Under()), 0)
	g.tells("boot", "up 3")
	is(t, "the time", g.w.Now(), 5)
}

// TestP22_4RunServes: Clients times Places steps a round.
func TestP22_4RunServes(t *testing.T) {
	for clients := 1; clients <= 8; clients++ {
		for places := 1; places <= 8; places += 1 + clients%3 {
			g := groundOf(t, api.Shape{Clients: clients, Window: 8, Places: places, Cache: 64, Inodes: 2, Quota: 0, Data: 8, Journal: 27}, usual)
			round := fmt.Sprintf("served %d", clients*places)
			g.tells("run 1", round)
			g.tells("run 3", round+";"+round+";"+round)
		}
	}
	g := groundOf(t, pairOf, usual)
	is(t, "the greatest run", strings.Count(g.does("run 100"), "served 4"), 100)
	is(t, "the time", g.w.Now(), 100)
}

// TestP22_4RunWithoutPower: the power fails in a run; its further rounds go on without a server.
func TestP22_4RunWithoutPower(t *testing.T) {
	g := groundOf(t, pairOf, api.Params{Min: 1, First: 1, Max: 4})
	g.tells("call 0 lookup /;arm 1;run 3", "started 0 1 lookup /;sent 0 1;"+
		"sent 0 2;served 0;down 3 0 0;"+
		"sent 0 3") // at the tick 3
	g.tells("look", "server 0 0 0")
}

// TestP22_4Look: the order of the lines, and what is not there when no server is up.
func TestP22_4Look(t *testing.T) {
	g := groundOf(t, pairOf, usual)
	g.does("call 1 lookup /;call 0 lookup /;run 1;call 0 create 0 a;call 1 mkdir 0 b;run 1;call 0 write 1 5 hello;run 1")
	g.does("call 0 getattr 1;call 0 getattr 0;call 1 getattr 1;give 11;give 12;copy 13;give 13;junk 0 ab")
	kept := strings.Split(strings.TrimSuffix(g.keptLines(), ";"), ";")
	is(t, "how many are kept", len(kept), 4)
	is(t, "whose is the first", strings.HasPrefix(kept[0], "kept 0 2 5 414e5231"), true)
	handles := "handle 0 0 256 1 /;handle 0 1 257 1 /a;handle 1 0 256 1 /;handle 1 1 258 1 /b"
	flights := ""
	for _, f := range g.w.Under() {
		flights += fmt.Sprintf(";flight %d %d %x", f.No, f.To, f.Data)
	}
	is(t, "the flights' numbers", strings.Count(flights, "flight"), 2)
	g.tells("look", "server 1 1 3;mark -1 10 3;mark 0 2 2;mark 1 1 1;"+strings.Join(kept, ";")+";"+handles+flights)
	g.does("crash \"\"")
	g.tells("look", "server 0 0 0;"+handles+flights)
	g.does("boot")
	g.tells("look", "server 1 2 0;mark -1 10 3;mark 0 2 0;mark 1 1 0;"+strings.Join(kept, ";")+";"+handles+flights)
}

// TestP22_5NothingChanges: to look from outside changes nothing, however often.
func TestP22_5NothingChanges(t *testing.T) {
	g := groundOf(t, pairOf, usual)
	for _, o := range opsOf(t, "call 0 lookup /;copy 1;give 1;serve 1;tick 9;give 2;give 3;call 0 create 0 a;arm 9;run 2;look;crash 01;run 1;boot;run 5") {
		for range 3 {
			g.holds()
		}
		g.step(o)
	}
	g.holds()
}
