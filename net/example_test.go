package net_test

import (
	"slices"
	"testing"

	"annex/api"
	"annex/net"
)

// lies asks a net for what is under way.
func lies(t *testing.T, x *net.Net, want ...api.Flight) {
	t.Helper()
	same := func(a, b api.Flight) bool {
		return a.No == b.No && a.To == b.To && string(a.Data) == string(b.Data)
	}
	if got := x.Under(); !slices.EqualFunc(got, want, same) {
		t.Fatalf("Under: %v, want %v", got, want)
	}
}

// copies asks a net for what Copy answers.
func copies(t *testing.T, x *net.Net, no, want int, code api.Errno) {
	t.Helper()
	got, e := x.Copy(no)
	is(t, "Copy's number", got, want)
	is(t, "Copy's error", e, code)
}

// takes asks a net for what Take answers.
func takes(t *testing.T, x *net.Net, no, to int, data string, code api.Errno) {
	t.Helper()
	p, e := x.Take(no)
	is(t, "Take's To", p.To, to)
	is(t, "Take's bytes", string(p.Data), data)
	is(t, "Take's error", e, code)
}

// TestP20_8Examples: the chapter's, one behind the other.
func TestP20_8Examples(t *testing.T) {
	x := net.New()
	a, b := api.Packet{To: -1, Data: []byte{0x41, 0x42}}, api.Packet{To: 3}

	is(t, "Send(a)", x.Send(a), 1)
	is(t, "Send(b)", x.Send(b), 2)
	copies(t, x, 1, 3, api.OK)
	copies(t, x, 9, 0, api.ErrFlight)

	is(t, "Flip(1, 1, 3)", x.Flip(1, 1, 3), api.OK)
	is(t, "Flip(1, 2, 3)", x.Flip(1, 2, 3), api.ErrAt)
	is(t, "Flip(1, 0, 0)", x.Flip(1, 0, 0), api.ErrSame)
	is(t, "Flip(1, 0, 256)", x.Flip(1, 0, 256), api.ErrSame)
	is(t, "Flip(2, 0, 1)", x.Flip(2, 0, 1), api.ErrAt)

	lies(t, x, api.Flight{No: 1, To: -1, Data: []byte{0x41, 0x41}}, api.Flight{No: 2, To: 3}, api.Flight{No: 3, To: -1, Data: []byte{0x41, 0x42}})

	takes(t, x, 3, -1, "\x41\x42", api.OK)
	takes(t, x, 3, 0, "", api.ErrFlight)
	is(t, "Drop(2)", x.Drop(2), api.OK)
	is(t, "Drop(2) again", x.Drop(2), api.ErrFlight)

	is(t, "Send(b)", x.Send(b), 4)
	lies(t, x, api.Flight{No: 1, To: -1, Data: []byte{0x41, 0x41}}, api.Flight{No: 4, To: 3})

	for no := 5; no <= 4098; no++ {
		is(t, "Send", x.Send(b), no)
	}
	is(t, "Send(a) beyond", x.Send(a), 0)
	copies(t, x, 1, 0, api.OK)
	is(t, "Drop(1)", x.Drop(1), api.OK)
	is(t, "Send(a)", x.Send(a), 4099)
}

// TestP20_4TheErrorsNumbers: the chapter's.
func TestP20_4TheErrorsNumbers(t *testing.T) {
	x := net.New()
	x.Send(api.Packet{Data: []byte{1}})
	is(t, "of a number that is none", int(x.Drop(2)), 201)
	is(t, "of a place that is none", int(x.Flip(1, 1, 1)), 202)
	is(t, "of a byte that would stay", int(x.Flip(1, 0, 0)), 203)
}
