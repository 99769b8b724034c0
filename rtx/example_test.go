package rtx_test

import (
	"encoding/hex"
	"slices"
	"testing"

	"annex/api"
	"annex/rtx"
)

// takesSeqs asks for the seqs of what is taken.
func takesSeqs(t *testing.T, x *rtx.Rtx, want ...int) {
	t.Helper()
	if got := seqsOf(t, x.Take()); !slices.Equal(got, want) {
		t.Fatalf("Take: the seqs %v, want %v", got, want)
	}
}

// sent is a Send and what it must answer.
func sent(t *testing.T, x *rtx.Rtx, now int, path string, seq int, code api.Errno) {
	t.Helper()
	s, c := x.Send(now, look(path))
	is(t, "Send's seq", s, seq)
	is(t, "Send's error", c, code)
}

// heard is a Receive and whether it must be an answer.
func heard(t *testing.T, x *rtx.Rtx, now int, b []byte, seq int) {
	t.Helper()
	p, ok := x.Receive(now, b)
	is(t, "whether it is an answer", ok, seq > 0)
	is(t, "the answer's seq", p.Seq, seq)
}

// TestP18Example: the chapter's table, one call behind the other.
func TestP18Example(t *testing.T) {
	x := made(t, 1, 2, usual)
	sent(t, x, 0, "/", 1, api.OK)
	list := x.Take()
	is(t, "how many are taken", len(list), 1)
	is(t, "the first datagram", hex.EncodeToString(list[0][:len(list[0])-8]),
		"414e5131"+"00000001"+"0000000000000001"+"0000000000000000"+"0000000000000000"+"00000001"+"00000001"+"2f000000")
	sent(t, x, 0, "/a", 2, api.OK)
	sent(t, x, 0, "/b", 0, api.ErrWindow)
	waits(t, x, api.Waiting{Seq: 1, Due: 8, Times: 1}, api.Waiting{Seq: 2, Due: 8, Times: 1})
	x.Tick(7)
	takesSeqs(t, x, 2)
	x.Tick(8)
	takesSeqs(t, x, 1, 2)
	waits(t, x, api.Waiting{Seq: 1, Last: 8, Due: 24, Times: 2}, api.Waiting{Seq: 2, Last: 8, Due: 40, Times: 2})
	est := x.Est()
	is(t, "the estimate behind two that ran out", est, api.Est{Rto: 8, Shift: 2})

	heard(t, x, 9, found(t, 1, 2, 3), 2)
	is(t, "Ack", x.Ack(), 0)
	is(t, "Epoch", x.Epoch(), 3)
	is(t, "Est", x.Est(), est)
	heard(t, x, 9, found(t, 1, 2, 3), 0)
	heard(t, x, 9, refused(t, 1, 1, 3, api.Lookup, api.ErrBusy), 0)
	sent(t, x, 9, "/b", 0, api.ErrWindow)

	heard(t, x, 10, found(t, 1, 1, 3), 1)
	is(t, "Ack", x.Ack(), 2)
	sent(t, x, 10, "/b", 3, api.OK)
	waits(t, x, api.Waiting{Seq: 3, First: 10, Last: 10, Due: 42, Times: 1})
	heard(t, x, 13, found(t, 1, 3, 3), 3)
	is(t, "Est", x.Est(), api.Est{S8: 24, V4: 6, Rto: 9, Known: true})
}
