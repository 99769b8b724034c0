package rtx_test

import (
	"bytes"
	"math/rand"
	"testing"

	"annex/api"
	"annex/rtx"
)

// inWindow asks what P18.9 says, of what is outstanding and of what is sent.
func inWindow(t *testing.T, x *rtx.Rtx, window int, sent [][]byte) {
	t.Helper()
	all := x.Waiting()
	for i, w := range all {
		if w.Seq <= x.Ack() || w.Seq > x.Ack()+window || i == 0 && w.Seq != x.Ack()+1 || i > 0 && w.Seq <= all[i-1].Seq {
			t.Fatalf("window %d, ack %d: outstanding are %+v", window, x.Ack(), all)
		}
	}
	if len(all) == 0 {
		is(t, "Ack, if none is outstanding", x.Ack(), x.Next()-1)
	}
	for _, b := range sent {
		r := requestOf(t, b)
		if r.Seq-r.Ack < 1 || r.Seq-r.Ack > window {
			t.Fatalf("window %d: seq %d is sent with ack %d", window, r.Seq, r.Ack)
		}
	}
}

// TestP18_9Window: long stories of every width, with answers in any order, lost and doubled.
func TestP18_9Window(t *testing.T) {
	for window := 1; window <= api.MaxWindow; window++ {
		chance := rand.New(rand.NewSource(int64(window)))
		x := made(t, 6, window, usual)
		answered := 0
		for now := range 5000 {
			if _, code := x.Send(now, look("/")); code == api.ErrWindow {
				is(t, "how far the window is when it is closed", x.Next()-x.Ack(), window+1)
			}
			x.Tick(now)
			if _, ok := x.Receive(now, found(t, 6, max(1, x.Ack()-1+chance.Intn(window+3)), 1)); ok {
				answered++
			}
			inWindow(t, x, window, x.Take())
			if chance.Intn(100) == 0 {
				answered += drain(t, x, now)
				inWindow(t, x, window, nil)
			}
		}
		is(t, "whether many were answered", answered > 500, true)
		is(t, "how many were answered", answered+len(x.Waiting()), x.Next()-1)
	}
}

// drain lets the answers of all that is outstanding come, the last ones first.
func drain(t *testing.T, x *rtx.Rtx, now int) int {
	t.Helper()
	all := x.Waiting()
	for i := range all {
		_, ok := x.Receive(now, found(t, 6, all[len(all)-1-i].Seq, 1))
		is(t, "whether it is an answer", ok, true)
	}
	is(t, "Ack", x.Ack(), x.Next()-1)
	return len(all)
}

// sending is when a request was sent last, and its bytes.
type sending struct {
	at    int
	bytes []byte
}

// between asks of each sending that it lies Min to Max behind the last one of its request, with the very same bytes.
func between(t *testing.T, p api.Params, now int, sent [][]byte, last map[int]sending) {
	t.Helper()
	for _, b := range sent {
		seq := requestOf(t, b).Seq
		if s, ok := last[seq]; ok {
			if now-s.at < p.Min || now-s.at > p.Max {
				t.Fatalf("%+v: seq %d is sent at %d and then at %d", p, seq, s.at, now)
			}
			is(t, "whether it is the very same", bytes.Equal(b, s.bytes), true)
		}
		last[seq] = sending{at: now, bytes: b}
	}
}

// TestP18_10NeverSilent: with a Tick at every time no outstanding request is silent for longer than Max ticks, whatever comes and whenever others are sent.
func TestP18_10NeverSilent(t *testing.T) {
	for i, p := range []api.Params{usual, {Min: 1, First: 1, Max: 1}, {Min: 1, First: 1, Max: 200}, {Min: 5, First: 5, Max: 5}, {Min: 3, First: 40, Max: 50}, {Min: 10, First: 10, Max: 30}} {
		for window := 1; window <= api.MaxWindow; window++ {
			chance := rand.New(rand.NewSource(int64(10*i + window)))
			x := made(t, 6, window, p)
			last := map[int]sending{}
			for now := range 2000 {
				x.Tick(now)
				switch chance.Intn(30) {
				case 0, 1, 2:
					x.Send(now, pick(chance, requests()))
				case 3:
					x.Receive(now, datagram(t, replyTo(6, max(1, x.Ack()+chance.Intn(window+1)), 1, 1+chance.Intn(10))))
				case 4:
					x.Receive(now, refused(t, 6, x.Ack()+1, 1, api.Lookup, api.ErrBusy))
				}
				between(t, p, now, x.Take(), last)
				for _, w := range x.Waiting() {
					is(t, "Last", w.Last, last[w.Seq].at)
					if now-w.Last >= p.Max {
						t.Fatalf("%+v: at %d nothing has been heard of %+v", p, now, w)
					}
				}
			}
		}
	}
}

// TestP18_10Alone: one that nobody answers waits ever longer, up to Max.
func TestP18_10Alone(t *testing.T) {
	for _, p := range []api.Params{usual, {Min: 1, First: 1, Max: 1000}, {Min: 7, First: 7, Max: 7}} {
		x := made(t, 0, 1, p)
		x.Send(0, look("/"))
		x.Take()
		wait, at := p.First, p.First
		for now := range 5000 {
			x.Tick(now)
			is(t, "how many are sent", len(x.Take()), map[bool]int{true: 1}[now == at])
			if now == at {
				wait = min(2*wait, p.Max)
				at += wait
			}
		}
	}
}

// TestP18_11Once: each seq is answered at most once, by the first reply that may be its answer; the answers come as the replies do.
func TestP18_11Once(t *testing.T) {
	chance := rand.New(rand.NewSource(11))
	for range 30 {
		x := made(t, 6, 8, usual)
		answered := map[int]bool{}
		for now := range 500 {
			x.Send(now, look("/"))
			x.Tick(now)
			seq := 1 + chance.Intn(x.Next()+2)
			epoch := 1 + chance.Intn(9)
			for copies := range 3 {
				p, ok := x.Receive(now, found(t, 6, seq, epoch))
				is(t, "whether it is an answer", ok, copies == 0 && seq < x.Next() && !answered[seq])
				if ok {
					answered[seq] = true
					is(t, "the answer's seq", p.Seq, seq)
					is(t, "the answer's epoch", p.Epoch, epoch)
				}
			}
		}
	}
}

// TestP18_11Deaf: of two transports one hears much that is no valid reply to it; but for the time they stay the same.
func TestP18_11Deaf(t *testing.T) {
	chance := rand.New(rand.NewSource(12))
	for range 20 {
		deaf, quiet := made(t, 6, 4, usual), made(t, 6, 4, usual)
		for now := range 300 {
			for range 3 {
				b := datagram(t, replyTo(chance.Intn(8), 1+chance.Intn(quiet.Next()), 1+chance.Intn(50), 1+chance.Intn(10)))
				if b[7] == 6 { // to this client: spoil it
					b[chance.Intn(len(b))] ^= byte(1 + chance.Intn(255))
				}
				p, ok := deaf.Receive(now, b)
				is(t, "whether it is an answer", ok, false)
				is(t, "whether the reply is zero", sameReply(p, api.Reply{}), true)
			}
			alike(t, now, chance, deaf, quiet)
		}
	}
}

// alike does one and the same with two transports, and asks that they stay alike.
func alike(t *testing.T, now int, chance *rand.Rand, a, b *rtx.Rtx) {
	t.Helper()
	switch chance.Intn(3) {
	case 0:
		seq, code := a.Send(0, look("/"))
		b.Tick(now - 1) // nothing is due: each time has had its Tick
		other, otherCode := b.Send(now, look("/"))
		is(t, "Send's seq", seq, other)
		is(t, "Send's error", code, otherCode)
	case 1:
		good := found(t, 6, b.Ack()+1, 1+now/10)
		_, ok := a.Receive(now, good)
		_, other := b.Receive(now, good)
		is(t, "whether it is an answer", ok, other)
	}
	a.Tick(now)
	b.Tick(now)
	is(t, "Take", bytes.Equal(bytes.Join(a.Take(), nil), bytes.Join(b.Take(), nil)), true)
	is(t, "Ack", a.Ack(), b.Ack())
	is(t, "Epoch", a.Epoch(), b.Epoch())
	is(t, "Est", a.Est(), b.Est())
	waits(t, a, b.Waiting()...)
}
