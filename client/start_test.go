package client_test

import (
	"bytes"
	"math"
	"strings"
	"testing"

	"annex/api"
	"annex/client"
	"annex/rtx"
)

// TestP19_1New: every client, every window: there is nothing at first, and as many calls fly as the window is wide.
func TestP19_1New(t *testing.T) {
	for id := range api.MaxClients {
		for window := 1; window <= api.MaxWindow; window++ {
			g := groundOf(t, id, window, usual)
			handles(t, g.c)
			flies(t, g.c)
			is(t, "how many results there are", len(g.c.Results()), 0)
			is(t, "how much is to be sent", len(g.c.Take()), 0)
			is(t, "how many wait", len(g.c.Waiting()), 0)
			for n := 1; n <= window; n++ {
				is(t, "the number", g.starts(0, look("/")), n)
				asks(t, g.one(), api.Request{Client: id, Seq: n, Op: api.Lookup, Path: "/"})
			}
			g.refuses(0, look("/"), api.ErrWindowFull)
		}
	}
}

// TestP19_1Refused: nil just where the transport is.
func TestP19_1Refused(t *testing.T) {
	numbers := []int{math.MinInt, -1, 0, 1, 2, 7, 8, 9, 10, math.MaxInt}
	params := []api.Params{usual, {}, {Min: 0, First: 1, Max: 1}, {Min: 2, First: 1, Max: 3}, {Min: 1, First: 3, Max: 2}, {Min: 1, First: 1, Max: 1}, {Min: 1, First: 1, Max: api.MaxTicks}, {Min: 1, First: 1, Max: api.MaxTicks + 1}}
	for _, id := range numbers {
		for _, window := range numbers {
			for _, p := range params {
				is(t, "whether there is no client", client.New(id, window, p) == nil, rtx.New(id, window, p) == nil)
			}
		}
	}
}

// TestP19_1Time: times at all edges, one behind the other, through each of the calls that have one; also through a Start that is refused, of which the transport does not hear.
func TestP19_1Time(t *testing.T) {
	for _, one := range edges() {
		for _, two := range edges() {
			for i, by := range []func(g *ground, now int){
				func(g *ground, now int) { g.tick(now) },
				func(g *ground, now int) { g.receive(now, nil) },
				func(g *ground, now int) { g.refuses(now, api.Call{}, api.ErrArg) },
				func(g *ground, now int) { g.refuses(now, api.Call{Op: api.Getattr}, api.ErrHandle) },
				func(g *ground, now int) { g.refuses(now, look("a"), api.ErrPath) },
				func(g *ground, now int) { g.refuses(now, api.Call{Op: api.Lookup, Path: "/", Len: 1}, api.ErrArg) },
			} {
				g := groundOf(t, 1, 2, usual)
				by(g, one)
				g.starts(two, look("/"))
				want := min(max(one, two, 0), api.MaxNumber)
				is(t, "Waiting", g.c.Waiting()[0], api.Waiting{Seq: 1, First: want, Last: want, Due: want + 8, Times: 1})
				if i == 0 {
					g.refuses(math.MaxInt, api.Call{}, api.ErrArg)
					g.tick(0)
					is(t, "how often it was sent by the end of time", g.c.Waiting()[0].Times, 1+min(1, (api.MaxNumber-want)/8))
				}
			}
		}
	}
}

// TestP19_1RefusedWindow: a call that the window refuses moves the time too; the next Tick and the next sample have it.
func TestP19_1RefusedWindow(t *testing.T) {
	g := groundOf(t, 1, 1, usual)
	g.starts(0, look("/"))
	g.refuses(8, look("/"), api.ErrWindowFull)
	is(t, "how often it was sent", g.c.Waiting()[0].Times, 1)
	g.tick(0)
	is(t, "Waiting", g.c.Waiting()[0], api.Waiting{Seq: 1, Last: 8, Due: 24, Times: 2})
	g.take()
	g.answer(3, api.Request{Client: 1, Seq: 1, Op: api.Lookup}, 1, 256)
	g.refuses(100, api.Call{Op: 99}, api.ErrArg)
	g.starts(50, look("/"))
	is(t, "First", g.c.Waiting()[0].First, 100)
	g.refuses(103, look("/"), api.ErrWindowFull)
	g.answer(0, g.one(), 1, 256) // a sample of 3 ticks: its wait is 9
	g.starts(0, look("/"))
	is(t, "Waiting", g.c.Waiting()[0], api.Waiting{Seq: 3, First: 103, Last: 103, Due: 112, Times: 1})
}

// table is a ground with the handles 0 (the root), 1 (a path of sixteen names) and 2 ("/a").
func table(t *testing.T, window int) *ground {
	t.Helper()
	g := groundOf(t, 1, window, usual)
	g.handle("/", 256, 1)
	g.handle(deepPath(16), 300, 1)
	g.handle("/a", 257, 1)
	return g
}

// TestP19_2Op: no operation, whatever else is wrong.
func TestP19_2Op(t *testing.T) {
	g := table(t, 1)
	for _, op := range []int{math.MinInt, -1, 0, 11, 12, 1 << 32, 1<<32 + 1, math.MaxInt} {
		g.refuses(0, api.Call{Op: op}, api.ErrArg)
		g.refuses(0, api.Call{Op: op, H: 99, Name: "/", Path: "x"}, api.ErrArg)
	}
	g.starts(0, look("/"))
	g.refuses(0, api.Call{Op: 11}, api.ErrArg)
}

// TestP19_2Handle: a number that the table does not have comes ahead of all that is wrong with the rest.
func TestP19_2Handle(t *testing.T) {
	g := table(t, 1)
	for _, h := range []int{math.MinInt, -1, 3, 63, 64, 65, 256, 1 << 32, math.MaxInt} {
		for op := api.Getattr; op <= api.Readdir; op++ {
			g.refuses(0, api.Call{Op: op, H: h}, api.ErrHandle)
			g.refuses(0, api.Call{Op: op, H: h, Name: "..", Len: -1, Off: -1, Path: "x"}, api.ErrHandle)
		}
		g.refuses(0, api.Call{Op: api.Rename, H: 0, Name: "a", H2: h, Name2: "b"}, api.ErrHandle)
		g.refuses(0, api.Call{Op: api.Rename, H: h, Name: "a", H2: 0, Name2: "b"}, api.ErrHandle)
		g.refuses(0, api.Call{Op: api.Rename, H: 0, Name: "/", H2: h}, api.ErrHandle)
		g.refuses(0, api.Call{Op: api.Lookup, Path: "/", H: h}, api.ErrArg)
		g.refuses(0, api.Call{Op: api.Lookup, Path: "/", H2: h}, api.ErrArg)
		g.refuses(0, api.Call{Op: api.Lookup, Path: "x", H: h}, api.ErrPath)
		g.refuses(0, api.Call{Op: api.Getattr, H2: h}, api.ErrArg)
	}
	g.closes(0, api.OK)
	g.refuses(0, api.Call{Op: api.Getattr}, api.ErrHandle)
	is(t, "LOOKUP has no handle", g.starts(0, look("/")), 4)
	g.refuses(0, api.Call{Op: api.Getattr}, api.ErrHandle)
}

// TestP19_2Texts: paths and names, ahead of all fields.
func TestP19_2Texts(t *testing.T) {
	g := table(t, 1)
	for _, x := range []struct {
		path string
		code api.Errno
	}{{"", api.ErrPath}, {"a", api.ErrPath}, {"//", api.ErrName}, {"/a/", api.ErrName}, {"/..", api.ErrName}, {"/" + longName + "n", api.ErrName}, {deepPath(17), api.ErrDeep}, {strings.Repeat("/", 17), api.ErrDeep}} {
		g.refuses(0, look(x.path), x.code)
		g.refuses(0, api.Call{Op: api.Lookup, Path: x.path, H: 9, Off: -1, Name: "/"}, x.code)
	}
	for _, name := range []string{"", ".", "..", "a/b", "/", "\x00", longName + "n"} {
		for _, op := range []int{api.Create, api.Remove, api.Mkdir, api.Rmdir} {
			g.refuses(0, api.Call{Op: op, H: 1, Name: name}, api.ErrName)
			g.refuses(0, api.Call{Op: op, Name: name, Len: 1, Path: "/"}, api.ErrName)
		}
		g.refuses(0, api.Call{Op: api.Rename, Name: name, Name2: "a"}, api.ErrName)
		g.refuses(0, api.Call{Op: api.Rename, Name: "a", Name2: name, Off: 1}, api.ErrName)
		if name != "" {
			g.refuses(0, api.Call{Op: api.Readdir, Name: name, Len: 1}, api.ErrName)
			g.refuses(0, api.Call{Op: api.Readdir, Name: name, Len: 17}, api.ErrName)
		}
		if name != "" {
			g.refuses(0, api.Call{Op: api.Getattr, Name: name}, api.ErrArg)
		}
	}
	g.starts(0, look("/"))
	g.refuses(0, look("/a/"), api.ErrName)
	g.refuses(0, api.Call{Op: api.Create, Name: ".."}, api.ErrName)
}

// TestP19_2Bounds: the numbers and the data at the edges of what may be.
func TestP19_2Bounds(t *testing.T) {
	for _, x := range []struct {
		call api.Call
		good bool
	}{
		{api.Call{Op: api.Read, Off: 0, Len: 1}, true},
		{api.Call{Op: api.Read, Off: api.MaxSize, Len: api.MaxIO}, true},
		{api.Call{Op: api.Read, Off: -1, Len: 1}, false},
		{api.Call{Op: api.Read, Off: api.MaxSize + 1, Len: 1}, false},
		{api.Call{Op: api.Read, Off: math.MinInt, Len: 1}, false},
		{api.Call{Op: api.Read, Off: math.MaxInt, Len: 1}, false},
		{api.Call{Op: api.Read, Len: 0}, false},
		{api.Call{Op: api.Read, Len: -1}, false},
		{api.Call{Op: api.Read, Len: api.MaxIO + 1}, false},
		{api.Call{Op: api.Read, Len: math.MaxInt}, false},
		{api.Call{Op: api.Read, Len: 1, Data: []byte{0}}, false},
		{api.Call{Op: api.Read, Len: 1, Data: []byte{}}, true},
		{api.Call{Op: api.Write, Off: 0, Data: []byte{0}}, true},
		{api.Call{Op: api.Write, Off: api.MaxSize, Data: make([]byte, api.MaxIO)}, true},
		{api.Call{Op: api.Write, Off: api.MaxSize + 1, Data: []byte{0}}, false},
		{api.Call{Op: api.Write, Off: -1, Data: []byte{0}}, false},
		{api.Call{Op: api.Write}, false},
		{api.Call{Op: api.Write, Data: []byte{}}, false},
		{api.Call{Op: api.Write, Data: make([]byte, api.MaxIO+1)}, false},
		{api.Call{Op: api.Write, Data: []byte{0}, Len: 1}, false},
		{api.Call{Op: api.Readdir, Len: 1}, true},
		{api.Call{Op: api.Readdir, Len: api.MaxList}, true},
		{api.Call{Op: api.Readdir, Len: 0}, false},
		{api.Call{Op: api.Readdir, Len: -1}, false},
		{api.Call{Op: api.Readdir, Len: api.MaxList + 1}, false},
		{api.Call{Op: api.Readdir, Len: api.MaxIO}, false},
		{api.Call{Op: api.Readdir, Len: 1, Off: 1}, false},
	} {
		g := table(t, 1)
		if x.good {
			g.starts(0, x.call)
		} else {
			g.refuses(0, x.call, api.ErrArg)
			g.starts(0, look("/"))
			g.refuses(0, x.call, api.ErrArg) // also where the window is full
		}
	}
}

// TestP19_2Spare: to each good call each field that it does not have is added, alone.
func TestP19_2Spare(t *testing.T) {
	has := map[int]string{
		api.Lookup: "Path", api.Getattr: "H", api.Read: "H Off Len", api.Write: "H Off Data", api.Create: "H Name", api.Remove: "H Name", api.Mkdir: "H Name",
		api.Rmdir: "H Name", api.Rename: "H Name H2 Name2", api.Readdir: "H Name Len",
	}
	adds := map[string]func(k *api.Call){
		"H":     func(k *api.Call) { k.H = 1 },
		"H2":    func(k *api.Call) { k.H2 = 1 },
		"Off":   func(k *api.Call) { k.Off = 1 },
		"Len":   func(k *api.Call) { k.Len = 1 },
		"Path":  func(k *api.Call) { k.Path = "/" },
		"Name":  func(k *api.Call) { k.Name = "a" },
		"Name2": func(k *api.Call) { k.Name2 = "a" },
		"Data":  func(k *api.Call) { k.Data = []byte{0} },
	}
	g := table(t, 1)
	count := 0
	for _, good := range goodCalls(0, 0) {
		for field, add := range adds {
			if !strings.Contains(" "+has[good.Op]+" ", " "+field+" ") {
				ill := good
				add(&ill)
				g.refuses(0, ill, api.ErrArg)
				count++
			}
		}
	}
	is(t, "how many were tried", count, 3*7+7+2*5+2*5+5*6+2*4+2*5)
	is(t, "how many fly", len(g.c.Flying()), 0)
	is(t, "how much goes out", len(g.take()), 0)
}

// TestP19_2Deep: a handle whose path would be none is not begun, ahead of the window and behind all else; REMOVE and RMDIR there are.
func TestP19_2Deep(t *testing.T) {
	g := table(t, 1)
	for range 2 {
		for _, op := range []int{api.Create, api.Mkdir} {
			g.refuses(0, api.Call{Op: op, H: 1, Name: "a"}, api.ErrDeep)
			g.refuses(0, api.Call{Op: op, H: 1, Name: "a", Len: 1}, api.ErrArg)
			g.refuses(0, api.Call{Op: op, H: 1, Name: "."}, api.ErrName)
		}
		if len(g.c.Flying()) == 0 { // then again with a full window
			g.starts(0, api.Call{Op: api.Remove, H: 1, Name: "a"})
		}
	}
	g.answer(0, g.one(), 1, 0)
	g.starts(0, api.Call{Op: api.Rmdir, H: 1, Name: "a"})
	g.answer(0, g.one(), 1, 0)
	g.starts(0, api.Call{Op: api.Rename, H: 1, Name: "a", H2: 1, Name2: "b"})
	g.answer(0, g.one(), 1, 0)
	h := g.handle(deepPath(15), 301, 1)
	g.starts(0, api.Call{Op: api.Mkdir, H: h, Name: "y"})
	g.answer(0, g.one(), 1, 302)
	is(t, "the path of sixteen names", g.c.Handles()[4].Path, deepPath(15)+"/y")
}

// TestP19_2Window: just so many fly; one that has ended makes room, whichever it is, and a refused one takes none.
func TestP19_2Window(t *testing.T) {
	for window := 1; window <= api.MaxWindow; window++ {
		for ends := range window {
			g := groundOf(t, 1, window, usual)
			for range window {
				g.refuses(0, look("no path"), api.ErrPath)
				g.starts(0, look("/"))
			}
			out := g.take()
			for range 3 {
				g.refuses(0, look("/"), api.ErrWindowFull)
			}
			g.answer(0, out[ends], 1, 256)
			is(t, "the number", g.starts(0, look("/")), window+1) // a refused one has had none
			g.refuses(0, look("/"), api.ErrWindowFull)
		}
	}
}

// TestP19_2Order: whatever is wrong at once, the first in the chapter's order is the answer.
func TestP19_2Order(t *testing.T) {
	for _, full := range []bool{false, true} {
		g := table(t, 1)
		if full {
			g.starts(0, look("/"))
		}
		for n := range 14 * 5 * 3 * 3 * 3 * 3 * 4 * 4 * 3 {
			k := mixed(n)
			if code := g.w.judge(k); code != api.OK {
				if number, got := g.c.Start(0, k); number != 0 || got != code {
					t.Fatalf("Start(%+v): %d, %d, want %d", k, number, got, code)
				}
			}
		}
		g.holds()
		is(t, "how much goes out", len(g.c.Take()), len(g.c.Flying()))
	}
}

// mixed is the call number n of all that are made of these fields.
func mixed(n int) api.Call {
	digit := func(base int) int {
		d := n % base
		n /= base
		return d
	}
	return api.Call{
		Op: digit(14) - 1, H: []int{0, 1, 2, 3, -1}[digit(5)], H2: []int{0, 2, 3}[digit(3)],
		Name: []string{"", "a", ".."}[digit(3)], Name2: []string{"", "b", "/"}[digit(3)], Path: []string{"", "/", "/a/"}[digit(3)],
		Off: []int{0, 1, -1, 70000}[digit(4)], Len: []int{0, 1, 17, 1025}[digit(4)], Data: make([]byte, []int{0, 1, 1025}[digit(3)]),
	}
}

// TestP19_2Sends: what goes out for each call, field by field.
func TestP19_2Sends(t *testing.T) {
	for _, k := range goodCalls(2, 0) {
		g := table(t, 1)
		g.starts(0, k)
		want := api.Request{Client: 1, Seq: 4, Ack: 3, Epoch: 1, Op: k.Op, Off: k.Off, Len: k.Len, Path: k.Path, Name: k.Name, Name2: k.Name2, Data: bytes.Clone(k.Data)}
		if k.Op != api.Lookup {
			want.Id = 257
		}
		if k.Op == api.Rename {
			want.Id2 = 256
		}
		asks(t, g.one(), want)
		flies(t, g.c, 4)
		wires(t, g.c, 4, 4)
	}
}
