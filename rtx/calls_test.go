package rtx_test

import (
	"bytes"
	"math"
	"testing"

	"annex/api"
	"annex/msg"
	"annex/rto"
	"annex/rtx"
)

// TestP18_1New: every client, every window, params at their edges: all is as at the beginning.
func TestP18_1New(t *testing.T) {
	for client := range api.MaxClients {
		for window := 1; window <= api.MaxWindow; window++ {
			for _, p := range someParams() {
				x := made(t, client, window, p)
				is(t, "Next", x.Next(), 1)
				is(t, "Ack", x.Ack(), 0)
				is(t, "Epoch", x.Epoch(), 0)
				est, _ := rto.Start(p)
				is(t, "Est", x.Est(), est)
				waits(t, x)
				is(t, "how much is to be sent", len(x.Take()), 0)
				is(t, "the first seq", first(t, x, 0).Seq, 1)
			}
		}
	}
}

// first is the request that goes out when one is sent.
func first(t *testing.T, x *rtx.Rtx, now int) api.Request {
	t.Helper()
	_, code := x.Send(now, look("/"))
	is(t, "Send's error", code, api.OK)
	list := x.Take()
	is(t, "how many are taken", len(list), 1)
	return requestOf(t, list[0])
}

// TestP18_1Refused: what may not be, each alone and with others.
func TestP18_1Refused(t *testing.T) {
	for _, n := range []int{math.MinInt, -8, -1, 8, 9, math.MaxInt} {
		is(t, "a client that may not be", rtx.New(n, 1, usual), nil)
	}
	for _, n := range []int{math.MinInt, -8, -1, 0, 9, 10, math.MaxInt} {
		is(t, "a window that may not be", rtx.New(0, n, usual), nil)
	}
	is(t, "client 8, window 9", rtx.New(8, 9, api.Params{}), nil)
	for _, p := range []api.Params{{}, {Min: 0, First: 1, Max: 1}, {Min: 2, First: 1, Max: 3}, {Min: 1, First: 3, Max: 2}, {Min: 1, First: 1, Max: api.MaxTicks + 1}, {Min: -1, First: -1, Max: -1}, {Min: 1, First: 1, Max: math.MaxInt}} {
		is(t, "params that may not be", rtx.New(0, 1, p), nil)
	}
}

// TestP18_2Time: times at all edges, one behind the other, through each of the calls that have one.
func TestP18_2Time(t *testing.T) {
	for _, one := range edges() {
		for _, two := range edges() {
			want := min(max(one, two, 0), api.MaxNumber)
			for _, by := range timers(t) {
				g := groundOf(t, 1, 2, usual)
				by(g, one)
				before := len(g.w.rows)
				g.send(two, look("/"))
				if before < len(g.w.rows) {
					is(t, "First", g.x.Waiting()[before].First, want)
					is(t, "Due", g.x.Waiting()[before].Due, want+8)
				}
			}
		}
	}
}

// timers are calls that let the time come to now and send nothing.
func timers(t *testing.T) []func(g *ground, now int) {
	return []func(g *ground, now int){
		func(g *ground, now int) { g.tick(now) },
		func(g *ground, now int) { g.receive(now, nil) },
		func(g *ground, now int) { g.receive(now, found(t, 1, 1, 1)) },
		func(g *ground, now int) { g.receive(now, found(t, 2, 1, 1)) },
		func(g *ground, now int) { g.send(now, api.Request{}) },
		func(g *ground, now int) { g.send(now, look("/")) },
	}
}

// TestP18_2Refused: a Send that is refused, for whatever reason, moves the time; a later call with a smaller now has it.
func TestP18_2Refused(t *testing.T) {
	g := groundOf(t, 0, 1, usual)
	g.sends(0, look("/"))
	_, code := g.send(70, look("/"))
	is(t, "Send's error", code, api.ErrWindow)
	g.tick(3)
	is(t, "Last", g.x.Waiting()[0].Last, 70)
	_, code = g.send(90, look("no path"))
	is(t, "Send's error", code, api.ErrField)
	g.answer(0, 1)
	g.sends(80, look("/"))
	is(t, "First", g.x.Waiting()[0].First, 90)
}

// TestP18_2TheEnd: at MaxNumber the time stands; what is due behind it is never sent again.
func TestP18_2TheEnd(t *testing.T) {
	g := groundOf(t, 0, 2, usual)
	g.sends(api.MaxNumber-8, look("/"))
	g.tick(math.MaxInt)
	g.takes(1, 1)
	is(t, "Due", g.x.Waiting()[0].Due, api.MaxNumber+16)
	for _, now := range edges() {
		g.tick(now)
		g.takes()
	}
	g.sends(math.MaxInt, look("/a"))
	g.answer(math.MaxInt, 2)
	is(t, "a round trip of nothing counts as 1", g.x.Est().S8, 8)
}

// TestP18_3Becomes: whatever Client, Seq and Ack say, they become the transport's; all else stays.
func TestP18_3Becomes(t *testing.T) {
	for _, r := range requests() {
		for _, n := range edges() {
			g := groundOf(t, 5, 3, usual)
			g.sends(0, look("/a"))
			g.sends(0, look("/b"))
			g.answer(1, 1)
			g.takes(1, 2)
			r.Client, r.Seq, r.Ack = n, n, n
			is(t, "the seq", g.sends(2, r), 3)
			list := g.x.Take()
			g.w.out = nil
			is(t, "how many are taken", len(list), 1)
			r.Client, r.Seq, r.Ack = 5, 3, 1
			want, _ := msg.EncodeRequest(r)
			is(t, "the datagram", bytes.Equal(list[0], want), true)
		}
	}
}

// TestP18_3Wrong: CheckRequest's error, also where the window is closed; nothing changes but the time.
func TestP18_3Wrong(t *testing.T) {
	for window := 1; window <= 2; window++ {
		for i, x := range wrongs() {
			g := groundOf(t, 7, window, usual)
			g.sends(1, look("/"))
			seq, code := g.send(2+i, x.r)
			is(t, "Send's error", code, x.code)
			is(t, "Send's seq", seq, 0)
			g.takes(1)
			is(t, "Next", g.x.Next(), 2)
		}
	}
}

// TestP18_3Window: of every width; just so many go out, and the window opens as the ack rises.
func TestP18_3Window(t *testing.T) {
	for window := 1; window <= api.MaxWindow; window++ {
		g := groundOf(t, 3, window, usual)
		for seq := 1; seq <= window; seq++ {
			is(t, "the seq", g.sends(seq, look("/")), seq)
		}
		for range 3 {
			seq, code := g.send(9, look("/"))
			is(t, "Send's error", code, api.ErrWindow)
			is(t, "Send's seq", seq, 0)
		}
		for seq := window; seq > 1; seq-- { // all but the first: the ack stays
			g.answer(10, seq)
			_, code := g.send(10, look("/"))
			is(t, "Send's error", code, api.ErrWindow)
		}
		g.answer(11, 1)
		for seq := window + 1; seq <= 2*window; seq++ {
			is(t, "the seq", g.sends(12, look("/")), seq)
		}
		_, code := g.send(13, look("/"))
		is(t, "Send's error", code, api.ErrWindow)
		g.answer(14, window+1)
		is(t, "the seq", g.sends(14, look("/")), 2*window+1)
	}
}

// TestP18_3Due: what a request waits is what the estimate says at its sending, with what ran out for others.
func TestP18_3Due(t *testing.T) {
	for _, p := range someParams() {
		g := groundOf(t, 0, 8, p)
		g.sends(0, look("/"))
		for range 4 {
			now := g.x.Waiting()[0].Due
			g.tick(now)
			seq := g.sends(now, look("/b"))
			all := g.x.Waiting()
			is(t, "Due of a new one", all[len(all)-1], api.Waiting{Seq: seq, First: now, Last: now, Due: now + rto.Wait(p, g.x.Est()), Times: 1})
			g.answer(now, seq)
		}
	}
}

// TestP18_4Deaf: what is no valid reply to this client: nothing of it is heard, not its epoch either.
func TestP18_4Deaf(t *testing.T) {
	good := found(t, 1, 1, 9)
	request, _ := msg.EncodeRequest(api.Request{Client: 1, Seq: 1, Epoch: 9, Op: api.Lookup, Path: "/"})
	list := [][]byte{nil, {}, []byte("junk"), []byte("ANR1"), request, good[:len(good)-1], append(bytes.Clone(good), 0), bytes.Repeat([]byte{'A'}, api.MaxDatagram+1)}
	for client := range api.MaxClients {
		if client != 1 {
			list = append(list, found(t, client, 1, 9), refused(t, client, 1, 9, api.Lookup, api.ErrBusy))
		}
	}
	for i := range good {
		for _, with := range []byte{1, 0x80, 0xff} {
			b := bytes.Clone(good)
			b[i] ^= with
			list = append(list, b)
		}
	}
	g := groundOf(t, 1, 2, usual)
	g.sends(0, look("/"))
	for i, b := range list {
		is(t, "whether it is an answer", g.receive(i/64, b), false)
		is(t, "Epoch", g.x.Epoch(), 0)
		waits(t, g.x, api.Waiting{Seq: 1, Due: 8, Times: 1})
	}
	is(t, "whether the good one is an answer", g.receive(7, good), true)
}

// TestP18_4Epoch: the highest one of all valid replies, of those too that are no answers; it never falls.
func TestP18_4Epoch(t *testing.T) {
	g := groundOf(t, 4, 2, usual)
	g.sends(0, look("/"))
	g.takes(1)
	for i, b := range [][]byte{
		refused(t, 4, 1, 1, api.Lookup, api.ErrBusy),
		found(t, 4, 2, 2),                          // not sent yet
		found(t, 4, api.MaxNumber, 3),              // never sent
		datagram(t, replyTo(4, 1, 4, api.Getattr)), // another operation
		refused(t, 4, 1, 5, api.Remove, api.ErrNoEnt),
	} {
		is(t, "whether it is an answer", g.receive(i, b), false)
		is(t, "Epoch", g.x.Epoch(), i+1)
	}
	is(t, "whether it is an answer", g.receive(6, found(t, 4, 1, 2)), true)
	is(t, "Epoch", g.x.Epoch(), 5)
	is(t, "whether it is an answer", g.receive(6, found(t, 4, 1, api.MaxNumber)), false)
	is(t, "Epoch", g.x.Epoch(), api.MaxNumber)
	g.receive(6, found(t, 4, 1, 7))
	is(t, "Epoch", g.x.Epoch(), api.MaxNumber)
	is(t, "the epoch of a request is its own", first(t, g.x, 6).Epoch, 0)
}

// TestP18_4Statuses: of each operation with each status all are answers but ErrBusy; and only to their own operation.
func TestP18_4Statuses(t *testing.T) {
	for _, r := range requests() {
		for op := 1; op <= 10; op++ {
			for _, status := range statuses() {
				g := groundOf(t, 1, 2, usual)
				g.sends(0, r)
				p := replyTo(1, 1, 1, op)
				if status != api.OK {
					p = api.Reply{Client: 1, Seq: 1, Epoch: 1, Op: op, Status: status}
				}
				is(t, "whether it is an answer", g.receive(1, datagram(t, p)), op == r.Op && status != api.ErrBusy)
			}
		}
	}
}

// TestP18_4Busy: it leaves the request as it is, however often it comes; the timer and the estimate too.
func TestP18_4Busy(t *testing.T) {
	g := groundOf(t, 1, 2, usual)
	g.sends(0, look("/"))
	for now := range 8 {
		g.receive(now, refused(t, 1, 1, 1, api.Lookup, api.ErrBusy))
		waits(t, g.x, api.Waiting{Seq: 1, Due: 8, Times: 1})
		is(t, "Est", g.x.Est(), api.Est{Rto: 8})
	}
	g.tick(8)
	g.takes(1, 1)
	g.answer(9, 1)
}

// TestP18_4Sample: a request that was sent once gives a sample, from its sending on; one that was sent again gives none.
func TestP18_4Sample(t *testing.T) {
	for _, rtt := range []int{0, 1, 2, 3, 7, 100, api.MaxTicks, api.MaxTicks + 1, 1 << 40} {
		g := groundOf(t, 1, 3, usual)
		g.sends(5, look("/"))
		g.sends(6, look("/a"))
		g.answer(5+rtt, 1)
		start, _ := rto.Start(usual)
		est := rto.Sample(usual, start, rtt)
		if rtt == 0 {
			est = rto.Sample(usual, start, 1) // the second Send has let the time come to 6
		}
		is(t, "Est", g.x.Est(), est)
		g.tick(1 << 41)
		again := g.x.Est()
		is(t, "Times", g.x.Waiting()[0].Times, 2)
		g.answer(1<<41+1, 2)
		is(t, "Est behind one that was sent twice", g.x.Est(), again)
	}
}

// TestP18_4Past: a reply that comes at a time gone by came now.
func TestP18_4Past(t *testing.T) {
	g := groundOf(t, 1, 1, usual)
	g.sends(10, look("/"))
	g.receive(15, nil)
	g.answer(3, 1)
	is(t, "Est", g.x.Est(), api.Est{S8: 40, V4: 10, Rto: 15, Known: true})
}

// TestP18_4Order: whichever is answered first, the ack is the seq ahead of the least one outstanding.
func TestP18_4Order(t *testing.T) {
	const many = 5
	for n := range many * many * many * many * many {
		g := groundOf(t, 1, many, usual)
		for range many {
			g.sends(0, look("/"))
		}
		gone := map[int]bool{}
		for rest, i := n, 0; i < many; i++ {
			seq := 1 + rest%many
			rest /= many
			is(t, "whether it is an answer", g.receive(i, found(t, 1, seq, 1)), !gone[seq])
			gone[seq] = true
			want := 0
			for gone[want+1] {
				want++
			}
			is(t, "Ack", g.x.Ack(), want)
		}
	}
}

// TestP18_4Fields: the answer is the whole reply, field by field.
func TestP18_4Fields(t *testing.T) {
	for _, r := range requests() {
		x := made(t, 1, 1, usual)
		if _, code := x.Send(0, r); code != api.OK {
			t.Fatalf("Send(%+v): %d", r, code)
		}
		want := replyTo(1, 1, 6, r.Op)
		p, ok := x.Receive(0, datagram(t, want))
		is(t, "whether it is an answer", ok, true)
		if !sameReply(p, want) {
			t.Fatalf("the answer is %+v, want %+v", p, want)
		}
		p, ok = x.Receive(0, datagram(t, want))
		is(t, "whether it is an answer again", ok, false)
		is(t, "whether the reply is zero", sameReply(p, api.Reply{}), true)
	}
}
