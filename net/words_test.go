package net_test

import (
	"math"
	"math/rand"
	"slices"
	"testing"

	"annex/api"
	"annex/net"
)

// flip is one that was done to a flight.
type flip struct{ at, v int }

// told is a flight of the second telling: what was sent, as it was sent, and what was done to it since.
type told struct {
	no, to int
	sent   string
	flips  []flip
}

// bytes are what has become of what was sent.
func (f told) bytes() string {
	b := []byte(f.sent)
	for _, p := range f.flips {
		b[p.at] = b[p.at] ^ byte(p.v)
	}
	return string(b)
}

// ground is a net, and a second telling of the chapter: a row of flights in which one is looked for from its beginning on.
type ground struct {
	t     *testing.T
	x     *net.Net
	row   []told
	given int // numbers
	gone  int // taken or dropped
}

func groundOf(t *testing.T) *ground {
	t.Helper()
	return &ground{t: t, x: net.New()}
}

// place is where a number's flight stands in the row; -1: nowhere.
func (g *ground) place(no int) int {
	return slices.IndexFunc(g.row, func(f told) bool { return f.no == no })
}

// lay is what both Send and Copy do; the answer is the number.
func (g *ground) lay(to int, sent string, flips []flip) int {
	if len(g.row) == 4096 {
		return 0
	}
	g.given++
	g.row = append(g.row, told{g.given, to, sent, slices.Clone(flips)})
	return g.given
}

func (g *ground) send(to int, data string) int {
	g.t.Helper()
	want := g.lay(to, data, nil)
	is(g.t, "Send", g.x.Send(api.Packet{To: to, Data: []byte(data)}), want)
	return want
}

func (g *ground) copy(no int) int {
	g.t.Helper()
	want, code := 0, api.ErrFlight
	if i := g.place(no); i >= 0 {
		want, code = g.lay(g.row[i].to, g.row[i].sent, g.row[i].flips), api.OK
	}
	got, e := g.x.Copy(no)
	is(g.t, "Copy's number", got, want)
	is(g.t, "Copy's error", e, code)
	return want
}

// remove takes a number's flight out of the row.
func (g *ground) remove(no int) (told, api.Errno) {
	i := g.place(no)
	if i < 0 {
		return told{}, api.ErrFlight
	}
	f := g.row[i]
	g.row = slices.Delete(g.row, i, i+1)
	g.gone++
	return f, api.OK
}

func (g *ground) take(no int) {
	g.t.Helper()
	f, code := g.remove(no)
	p, e := g.x.Take(no)
	is(g.t, "Take's error", e, code)
	is(g.t, "Take's To", p.To, f.to)
	is(g.t, "Take's bytes", string(p.Data), f.bytes())
}

func (g *ground) drop(no int) {
	g.t.Helper()
	_, code := g.remove(no)
	is(g.t, "Drop", g.x.Drop(no), code)
}

func (g *ground) flip(no, at, v int) {
	g.t.Helper()
	is(g.t, "Flip", g.x.Flip(no, at, v), g.flipped(no, at, v))
}

func (g *ground) flipped(no, at, v int) api.Errno {
	i := g.place(no)
	switch {
	case i < 0:
		return api.ErrFlight
	case at < 0 || len(g.row[i].sent) <= at:
		return api.ErrAt
	case v <= 0 || 256 <= v:
		return api.ErrSame
	}
	g.row[i].flips = append(g.row[i].flips, flip{at, v})
	return api.OK
}

// holds asks for all that is under way, and that as many are as P20.8 says.
func (g *ground) holds() {
	g.t.Helper()
	list := g.x.Under()
	is(g.t, "how many are under way", len(list), len(g.row))
	is(g.t, "how many were given and are not gone", len(list), g.given-g.gone)
	for i, f := range g.row {
		is(g.t, "a flight's number", list[i].No, f.no)
		is(g.t, "a flight's To", list[i].To, f.to)
		is(g.t, "a flight's bytes", string(list[i].Data), f.bytes())
	}
}

// drain takes all that is under way, the one that the hand chooses first, and each number only once.
func (g *ground) drain(choose func(many int) int) {
	g.t.Helper()
	for len(g.row) > 0 {
		no := g.row[choose(len(g.row))].no
		g.take(no)
		g.take(no)
	}
	g.holds()
}

// fill sends till nothing more goes, a few bytes each.
func (g *ground) fill() {
	g.t.Helper()
	for n := len(g.row); n < 4096; n++ {
		g.send(n%9-1, data(n%5, n))
	}
}

// anyNo is mostly a number that is under way, and else one that was, or will be, or neither.
func (g *ground) anyNo(r *rand.Rand) int {
	if len(g.row) > 0 && r.Intn(8) > 0 {
		return g.row[r.Intn(len(g.row))].no
	}
	return r.Intn(g.given+4) - 1
}

// byChance does so many calls; the greater stay is, of 100, the more are under way.
func (g *ground) byChance(r *rand.Rand, calls, stay int) {
	g.t.Helper()
	for range calls {
		switch {
		case r.Intn(3) == 0:
			g.flip(g.anyNo(r), r.Intn(8)-1, r.Intn(260)-2)
		case r.Intn(100) < stay && r.Intn(2) == 0:
			g.copy(g.anyNo(r))
		case r.Intn(100) < stay:
			g.send(r.Intn(11)-2, data(r.Intn(7), r.Intn(256)))
		case r.Intn(2) == 0:
			g.take(g.anyNo(r))
		default:
			g.drop(g.anyNo(r))
		}
	}
}

// data are so many bytes, all of them different from their neighbours.
func data(many, first int) string {
	b := make([]byte, many)
	for i := range b {
		b[i] = byte(first + 37*i)
	}
	return string(b)
}

// edges are ints at the ends of what an int is, and around those of narrower ones.
func edges() []int {
	return []int{math.MinInt, math.MinInt + 1, -1 << 32, math.MinInt32, -256, -255, -2, -1, 0, 1, 2, 255, 256, 257, 4095, 4096, 4097,
		math.MaxInt32, 1 << 32, 1<<32 + 1, 1 << 62, math.MaxInt - 1, math.MaxInt}
}

func is[T comparable](t *testing.T, what string, got, want T) {
	t.Helper()
	if got != want {
		t.Fatalf("%s: %v, want %v", what, got, want)
	}
}
