package rtx

import (
	"bytes"
	"testing"

	"annex/api"
	"annex/msg"
)

var look = api.Request{Op: api.Lookup, Path: "/"}

// at is a transport that has come to a seq, as if all ahead of it had been answered: no test lives to send so many.
func at(seq int) *Rtx {
	x := New(1, 2, api.Params{Min: 2, First: 8, Max: 64})
	x.next = seq
	return x
}

func sends(t *testing.T, x *Rtx, now int, r api.Request, seq int, code api.Errno) {
	t.Helper()
	if s, c := x.Send(now, r); s != seq || c != code {
		t.Fatalf("Send: %d, %d, want %d, %d", s, c, seq, code)
	}
}

func answers(t *testing.T, x *Rtx, now, seq int) {
	t.Helper()
	b, _ := msg.EncodeReply(api.Reply{Client: 1, Seq: seq, Epoch: 1, Op: api.Lookup, Status: api.ErrNoEnt})
	if _, ok := x.Receive(now, b); !ok {
		t.Fatalf("the reply of %d is no answer", seq)
	}
}

// TestP18_3SeqLast: MaxNumber is the last seq; behind it each Send is refused so, whatever else there is to refuse, and but for the time nothing changes.
func TestP18_3SeqLast(t *testing.T) {
	x := at(api.MaxNumber - 1)
	sends(t, x, 0, look, api.MaxNumber-1, api.OK)
	sends(t, x, 0, look, api.MaxNumber, api.OK)
	for _, r := range []api.Request{look, {}, {Op: api.Lookup, Path: "/", Epoch: -1}} { // also with a closed window
		sends(t, x, 1, r, 0, api.ErrSeqLast)
	}
	if x.Next() != api.MaxNumber+1 || x.Ack() != api.MaxNumber-2 || len(x.Waiting()) != 2 {
		t.Fatalf("Next %d, Ack %d, Waiting %+v", x.Next(), x.Ack(), x.Waiting())
	}
	answers(t, x, 2, api.MaxNumber)
	answers(t, x, 2, api.MaxNumber-1)
	if x.Ack() != api.MaxNumber || len(x.Waiting()) != 0 {
		t.Fatalf("Ack %d, Waiting %+v", x.Ack(), x.Waiting())
	}
	if list := x.Take(); len(list) != 2 {
		t.Fatalf("%d datagrams to send", len(list))
	}
	sends(t, x, 9, look, 0, api.ErrSeqLast)
	if x.now != 9 || len(x.Take()) != 0 {
		t.Fatalf("a Send that was refused: the time is %d", x.now)
	}
}

// sound asks that just what is outstanding has a timer, and that the room of what was taken is empty and small.
func sound(t *testing.T, x *Rtx) {
	t.Helper()
	if x.due.Len() != len(x.outstanding) || len(x.outstanding) > x.window {
		t.Fatalf("%d timers, %d outstanding", x.due.Len(), len(x.outstanding))
	}
	for seq := range x.outstanding {
		if _, ok := x.due.At(seq); !ok {
			t.Fatalf("%d has no timer", seq)
		}
	}
	for _, b := range x.toSend[len(x.toSend):cap(x.toSend)] {
		if b != nil {
			t.Fatalf("%x stands behind the list's end", b)
		}
	}
	if len(x.toSend) == 0 && cap(x.toSend) > api.MaxWindow {
		t.Fatalf("room for %d is kept", cap(x.toSend))
	}
}

// TestP18_6Inside: behind each call the transport has what it needs, and nothing else.
func TestP18_6Inside(t *testing.T) {
	x := New(1, 4, api.Params{Min: 1, First: 1, Max: 3})
	for now := range 3000 {
		x.Send(now, look)
		sound(t, x)
		x.Tick(now)
		sound(t, x)
		if now%2 == 0 {
			answers(t, x, now, x.Waiting()[now*now%7%len(x.Waiting())].Seq)
			sound(t, x)
		}
		if now%11 < 3 || now > 2000 && now%300 == 0 {
			x.Take()
			sound(t, x)
		}
	}
}

// TestP18_8OwnBytes: the bytes that are sent again are held by nobody else.
func TestP18_8OwnBytes(t *testing.T) {
	x := at(1)
	sends(t, x, 0, api.Request{Op: api.Write, Id: 257, Data: []byte("hello")}, 1, api.OK)
	own := bytes.Clone(x.outstanding[1].datagram)
	for now := 1; now < 100; now++ {
		x.Tick(now)
		for _, b := range x.Take() {
			clear(b[:cap(b)])
		}
		if !bytes.Equal(x.outstanding[1].datagram, own) {
			t.Fatalf("at %d the bytes have become others", now)
		}
	}
}
