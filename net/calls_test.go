package net_test

import (
	"slices"
	"testing"

	"annex/api"
	"annex/net"
)

// TestP20_1Nothing: whatever the number, there is nothing to take, drop, copy or flip; then the first number is 1.
func TestP20_1Nothing(t *testing.T) {
	g := groundOf(t)
	g.holds()
	for _, no := range edges() {
		g.take(no)
		g.drop(no)
		is(t, "Copy", g.copy(no), 0)
		g.flip(no, 0, 1)
		g.holds()
	}
	is(t, "the first number", g.send(0, ""), 1)
	g.holds()
}

// TestP20_2AnyPacket: To may be any number, the bytes any bytes and as many as one likes.
func TestP20_2AnyPacket(t *testing.T) {
	g := groundOf(t)
	for _, to := range edges() {
		g.send(to, "")
		g.send(to, data(3, to))
	}
	for b := range 256 {
		g.send(-1, string([]byte{byte(b)}))
	}
	for _, many := range []int{1, 2, 1399, 1400, 1401, 65536, 1 << 20} {
		g.send(1, data(many, many))
	}
	is(t, "Send of nil", g.x.Send(api.Packet{To: 5}), g.lay(5, "", nil))
	g.holds()
	g.drain(func(many int) int { return many / 2 })
}

// TestP20_2SameTwice: two that are alike are two.
func TestP20_2SameTwice(t *testing.T) {
	g := groundOf(t)
	for range 5 {
		g.send(2, "ab")
	}
	g.holds()
	g.flip(3, 0, 1)
	g.drop(2)
	g.holds()
	g.drain(func(many int) int { return many - 1 })
}

// TestP20_2Full: 4096 are under way, and one more is lost: no number is given, and none of the others is touched.
func TestP20_2Full(t *testing.T) {
	g := groundOf(t)
	g.fill()
	is(t, "how many are under way", len(g.x.Under()), 4096)
	g.holds()
	for range 3 {
		is(t, "Send beyond", g.send(1, "lost"), 0)
	}
	g.holds()
	for i, no := range []int{1, 4096, 2000, 4097, 4098} {
		if i%2 == 0 {
			g.drop(no)
		} else {
			g.take(no)
		}
		is(t, "Send into the free room", g.send(1, "in"), 4097+i)
		is(t, "Send behind it", g.send(1, "lost"), 0)
	}
	g.holds()
}

// TestP20_2FullAgain: how many may be under way does not hang on how many there were.
func TestP20_2FullAgain(t *testing.T) {
	x := net.New()
	last := 0
	for range 5 {
		for n := range 4096 {
			last++
			is(t, "Send", x.Send(api.Packet{To: n}), last)
		}
		is(t, "Send beyond", x.Send(api.Packet{}), 0)
		for no := last - 4095; no <= last; no++ {
			is(t, "Drop", x.Drop(no), api.OK)
		}
		is(t, "how many are under way", len(x.Under()), 0)
	}
}

// TestP20_2ALoss: is no error of the net: what comes behind it is as if it had not been.
func TestP20_2ALoss(t *testing.T) {
	g := groundOf(t)
	g.fill()
	g.send(1, "lost")
	g.copy(7)
	for no := 1; no <= 4096; no += 2 {
		g.drop(no)
	}
	g.holds()
	is(t, "the next number", g.send(1, "in"), 4097)
	is(t, "the next number", g.copy(4097), 4098)
	g.holds()
}

// TestP20_3Rising: by their numbers, in whichever order the others went, and nothing changes by looking.
func TestP20_3Rising(t *testing.T) {
	for many := range 120 {
		g := groundOf(t)
		for n := range many {
			g.send(n%3-1, data(n%4, n))
		}
		for n := range many / 2 {
			g.drop(n*7%many + 1)
			g.copy(n*11%many + 1)
		}
		first := g.x.Under()
		is(t, "whether they rise", slices.IsSortedFunc(first, func(a, b api.Flight) int { return a.No - b.No }), true)
		g.holds()
		g.holds()
	}
}

// TestP20_3Full: also where all that may be under way is, and the numbers are great.
func TestP20_3Full(t *testing.T) {
	g := groundOf(t)
	for n := range 4096 {
		g.send(n, "")
		g.drop(n + 1)
	}
	g.fill()
	g.holds()
}

// TestP20_4Once: what was taken or dropped is under way no longer, for any call.
func TestP20_4Once(t *testing.T) {
	for _, end := range []func(g *ground, no int){(*ground).take, (*ground).drop} {
		g := groundOf(t)
		for n := range 6 {
			g.send(n, data(n, n))
		}
		for _, no := range []int{3, 6, 1, 2, 5, 4} {
			end(g, no)
			g.take(no)
			g.drop(no)
			g.copy(no)
			g.flip(no, 0, 1)
			g.flip(no, -1, 0)
			g.holds()
		}
		is(t, "the next number", g.send(0, "a"), 7)
	}
}

// TestP20_4NoNumber: ErrFlight with zero values, beside others that are under way, and these stay.
func TestP20_4NoNumber(t *testing.T) {
	g := groundOf(t)
	for n := range 3 {
		g.send(7, data(n+1, n))
	}
	g.drop(2)
	for _, no := range edges() {
		if no == 1 {
			continue
		}
		p, code := g.x.Take(no)
		is(t, "Take's error", code, api.ErrFlight)
		is(t, "Take's packet", p.To == 0 && p.Data == nil, true)
		is(t, "Drop", g.x.Drop(no), api.ErrFlight)
		copies(t, g.x, no, 0, api.ErrFlight)
		g.holds()
	}
}

// TestP20_4AnyOrder: all orders in which five can be taken.
func TestP20_4AnyOrder(t *testing.T) {
	for n := range 5 * 4 * 3 * 2 {
		g := groundOf(t)
		for i := range 5 {
			g.send(i-1, data(i, i))
		}
		rest := n
		g.drain(func(many int) int {
			i := rest % many
			rest /= many
			return i
		})
	}
}

// TestP20_5ACopy: it has the To and the bytes of the flight as that is now, the next number, and a life of its own.
func TestP20_5ACopy(t *testing.T) {
	for _, to := range edges() {
		g := groundOf(t)
		g.send(to, "abc")
		g.send(1, "")
		g.flip(1, 2, 255)
		is(t, "Copy", g.copy(1), 3)
		is(t, "Copy of nothing", g.copy(2), 4)
		g.holds()
		g.flip(1, 0, 1)
		g.flip(3, 1, 2)
		g.holds()
		is(t, "Copy of a copy", g.copy(3), 5)
		g.take(1)
		g.holds()
		g.drop(3)
		g.flip(5, 2, 255)
		g.holds()
		g.drain(func(int) int { return 0 })
	}
}

// TestP20_5Full: the copy is lost, which is no error, and the flight stays; a number that is none is one all the same.
func TestP20_5Full(t *testing.T) {
	g := groundOf(t)
	g.send(0, "a")
	for n := 2; n <= 4096; n++ {
		is(t, "Copy", g.copy(n-1), n)
	}
	copies(t, g.x, 1, 0, api.OK)
	copies(t, g.x, 4096, 0, api.OK)
	copies(t, g.x, 4097, 0, api.ErrFlight)
	copies(t, g.x, 0, 0, api.ErrFlight)
	g.holds()
	g.take(4096)
	is(t, "Copy into the free room", g.copy(1), 4097)
	is(t, "Copy behind it", g.copy(1), 0)
	g.holds()
}

// TestP20_6EveryByte: all bytes, xored with all that may be; again, and it is as it was.
func TestP20_6EveryByte(t *testing.T) {
	x := net.New()
	no := x.Send(api.Packet{To: 1, Data: []byte{0, 0xaa, 0}})
	for b := range 256 {
		x.Flip(no, 1, 0xaa^b) // for 0xaa: refused, and the byte is 0xaa as it was
		for v := 1; v <= 255; v++ {
			is(t, "Flip", x.Flip(no, 1, v), api.OK)
			is(t, "the bytes", string(x.Under()[0].Data), string([]byte{0, byte(b ^ v), 0}))
			is(t, "Flip back", x.Flip(no, 1, v), api.OK)
		}
		is(t, "the bytes", string(x.Under()[0].Data), string([]byte{0, byte(b), 0}))
		x.Flip(no, 1, 0xaa^b)
	}
}

// TestP20_6EveryPlace: just the byte there, of just that flight.
func TestP20_6EveryPlace(t *testing.T) {
	for many := range 20 {
		g := groundOf(t)
		g.send(1, data(many, 1))
		g.send(1, data(many, 1))
		g.copy(2)
		for at := -2; at <= many+2; at++ {
			g.flip(2, at, at&255|1)
			g.holds()
		}
	}
}

// TestP20_6NoByte: numbers that are none of a byte, or change nothing, and places that are none; the flight is as it was.
func TestP20_6NoByte(t *testing.T) {
	g := groundOf(t)
	g.send(1, "abc")
	for _, n := range edges() {
		for _, m := range edges() {
			g.flip(1, n, m)
			g.holds()
		}
	}
	for v := -300; v <= 600; v++ {
		g.flip(1, 2, v)
		g.holds()
	}
	for _, v := range edges() {
		if v < 1 || v > 255 {
			is(t, "Flip", g.x.Flip(1, 0, v), api.ErrSame)
		}
	}
}

// TestP20_6TheOrder: ErrFlight ahead of ErrAt, and that ahead of ErrSame.
func TestP20_6TheOrder(t *testing.T) {
	x := net.New()
	x.Send(api.Packet{Data: []byte{1}})
	x.Send(api.Packet{})
	for _, v := range []int{-1, 0, 1, 255, 256} {
		for _, at := range []int{-1, 0, 1} {
			is(t, "of no number", x.Flip(3, at, v), api.ErrFlight)
			is(t, "of no number", x.Flip(0, at, v), api.ErrFlight)
			is(t, "of no bytes", x.Flip(2, at, v), api.ErrAt)
			if at != 0 {
				is(t, "of no place", x.Flip(1, at, v), api.ErrAt)
			}
		}
	}
	lies(t, x, api.Flight{No: 1, Data: []byte{1}}, api.Flight{No: 2})
}
