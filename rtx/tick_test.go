package rtx_test

import (
	"bytes"
	"testing"

	"annex/api"
	"annex/rto"
)

// TestP18_5Due: not ahead of the time when it is due, then at it, and at any time behind it.
func TestP18_5Due(t *testing.T) {
	for _, late := range []int{0, 1, 5, 63, 64, 1000, 1 << 40} {
		g := groundOf(t, 1, 1, usual)
		g.sends(3, look("/"))
		g.takes(1)
		g.tick(10)
		g.takes()
		g.tick(11 + late)
		g.takes(1)
		waits(t, g.x, api.Waiting{Seq: 1, First: 3, Last: 11 + late, Due: 11 + late + 16, Times: 2})
		g.tick(11 + late)
		g.takes()
	}
}

// TestP18_5Once: however late a Tick comes, each is sent once in it; a Tick at a time gone by is one at the time that is.
func TestP18_5Once(t *testing.T) {
	for _, p := range someParams() {
		g := groundOf(t, 1, 8, p)
		for range 8 {
			g.sends(0, look("/"))
		}
		g.takes(1, 2, 3, 4, 5, 6, 7, 8)
		for i := 1; i < 9; i++ {
			g.tick(i << 30)
			g.tick(0)
			g.takes(dueOrder(g)...)
		}
	}
}

// dueOrder are the seqs of what is to be sent by the second telling.
func dueOrder(g *ground) []int {
	g.t.Helper()
	return seqsOf(g.t, g.w.out)
}

// TestP18_5OneBehindTheOther: each that runs out doubles what it and those behind it wait.
func TestP18_5OneBehindTheOther(t *testing.T) {
	g := groundOf(t, 1, 5, usual)
	for range 5 {
		g.sends(0, look("/"))
	}
	g.tick(10)
	g.takes(1, 2, 3, 4, 5, 1, 2, 3, 4, 5)
	for i, due := range []int{26, 42, 74, 74, 74} {
		is(t, "Due", g.x.Waiting()[i].Due, due)
	}
	is(t, "Est", g.x.Est(), api.Est{Rto: 8, Shift: 3})
	g.tick(50)
	g.takes(1, 2)
	g.tick(74)
	g.takes(3, 4, 5)
	g.tick(114)
	g.takes(1, 2)
}

// TestP18_5ByTime: the one that is due first goes first, whatever its seq; of two that are due at one time the smaller seq.
func TestP18_5ByTime(t *testing.T) {
	g := groundOf(t, 1, 5, usual)
	g.sends(0, look("/"))
	g.tick(8)             // 1 is due at 24
	g.sends(9, look("/")) // 2: 25
	g.sends(9, look("/"))
	g.answer(10, 3)        // a trip of 1 tick: Rto 3
	g.sends(10, look("/")) // 4: 13
	g.sends(21, look("/")) // 5: 24
	g.takes(1, 1, 2, 3, 4, 5)
	for i, due := range []int{24, 25, 13, 24} {
		is(t, "Due", g.x.Waiting()[i].Due, due)
	}
	g.tick(30)
	g.takes(4, 1, 5, 2)
	for i, due := range []int{42, 78, 36, 54} {
		is(t, "Due", g.x.Waiting()[i].Due, due)
	}
	g.tick(41)
	g.takes(4)
	g.tick(54)
	g.takes(1, 5)
}

// TestP18_5SameBytes: what is sent again has the ack and the epoch of its first sending, whatever has come since.
func TestP18_5SameBytes(t *testing.T) {
	for _, r := range requests() {
		g := groundOf(t, 2, 4, usual)
		g.sends(0, look("/"))
		g.sends(0, r)
		sent := g.x.Take()[1]
		g.w.out = nil
		g.receive(1, found(t, 2, 1, 40))
		is(t, "Ack", g.x.Ack(), 1)
		is(t, "Epoch", g.x.Epoch(), 40)
		for i := range 6 {
			g.tick(100 * (i + 1))
			list := g.x.Take()
			g.w.out = nil
			is(t, "how many are taken", len(list), 1)
			is(t, "whether it is the very same", bytes.Equal(list[0], sent), true)
			is(t, "Times", g.x.Waiting()[0].Times, i+2)
		}
	}
}

// TestP18_5Answered: a request that has its answer is never sent again.
func TestP18_5Answered(t *testing.T) {
	g := groundOf(t, 1, 3, usual)
	for range 3 {
		g.sends(0, look("/"))
	}
	g.takes(1, 2, 3)
	g.answer(1, 2)
	est := g.x.Est()
	g.tick(100)
	g.takes(1, 3)
	is(t, "the estimate behind two that ran out", g.x.Est(), rto.Expire(usual, rto.Expire(usual, est)))
	g.answer(101, 1)
	g.answer(101, 3)
	est = g.x.Est()
	for now := 102; now < 1000; now++ {
		g.tick(now)
		g.takes()
	}
	is(t, "the estimate when nothing runs out", g.x.Est(), est)
}

// TestP18_5Empty: a Tick when nothing is outstanding.
func TestP18_5Empty(t *testing.T) {
	g := groundOf(t, 1, 3, usual)
	for _, now := range edges() {
		g.tick(now)
		g.takes()
		is(t, "Est", g.x.Est(), api.Est{Rto: 8})
	}
}

// TestP18_6Joined: Sends and Ticks between two Takes, in the order in which they came; each is taken once.
func TestP18_6Joined(t *testing.T) {
	g := groundOf(t, 1, 4, usual)
	g.takes()
	g.sends(0, look("/"))
	g.sends(1, look("/"))
	g.tick(8)
	g.sends(8, look("/"))
	g.tick(9)
	g.tick(24)
	g.send(24, look("no path"))
	g.takes(1, 2, 1, 3, 2, 1, 3)
	g.takes()
	g.sends(25, look("/"))
	g.takes(4)
	g.takes()
}

// TestP18_6AnsweredMeanwhile: an answer takes nothing out of what is to be sent.
func TestP18_6AnsweredMeanwhile(t *testing.T) {
	g := groundOf(t, 1, 2, usual)
	g.sends(0, look("/"))
	g.sends(0, look("/a"))
	g.tick(8)
	g.answer(8, 2)
	g.answer(8, 1)
	waits(t, g.x)
	g.takes(1, 2, 1, 2)
	g.sends(9, look("/"))
	g.answer(9, 3)
	g.takes(3)
	g.takes()
}

// TestP18_6Many: far more than a window, of many Ticks.
func TestP18_6Many(t *testing.T) {
	g := groundOf(t, 1, 3, api.Params{Min: 1, First: 1, Max: 1})
	for range 3 {
		g.sends(0, look("/"))
	}
	for now := 1; now <= 1000; now++ {
		g.tick(now)
	}
	is(t, "how many are to be sent", len(g.w.out), 3003)
	g.take()
	g.tick(1001)
	g.takes(1, 2, 3)
}

// TestP18_7ChangeNothing: of two transports that are led the same way the one is looked at all the time.
func TestP18_7ChangeNothing(t *testing.T) {
	looked, plain := made(t, 1, 4, usual), made(t, 1, 4, usual)
	for now := range 3000 {
		for range now % 3 {
			looked.Waiting()
			looked.Ack()
			looked.Next()
			looked.Epoch()
			looked.Est()
		}
		switch now % 5 {
		case 0, 1:
			seq, code := looked.Send(now, look("/"))
			other, otherCode := plain.Send(now, look("/"))
			is(t, "Send's seq", seq, other)
			is(t, "Send's error", code, otherCode)
		case 2:
			b := found(t, 1, max(1, plain.Ack()+now%4), 1+now/100)
			_, ok := looked.Receive(now, b)
			_, other := plain.Receive(now, b)
			is(t, "whether it is an answer", ok, other)
		default:
			looked.Tick(now)
			plain.Tick(now)
		}
		if now%7 == 0 {
			is(t, "Take", bytes.Equal(bytes.Join(looked.Take(), nil), bytes.Join(plain.Take(), nil)), true)
		}
	}
	is(t, "Est", looked.Est(), plain.Est())
	waits(t, looked, plain.Waiting()...)
}
