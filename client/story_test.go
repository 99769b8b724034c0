package client_test

import (
	"fmt"
	"math/rand"
	"slices"
	"testing"

	"annex/api"
)

// byChance does one call of any kind, with good arguments and with others, and holds it against the second telling.
func (g *ground) byChance(chance *rand.Rand, now int) {
	g.t.Helper()
	switch chance.Intn(20) {
	case 0, 1, 2, 3, 4:
		g.start(now, pick(chance, goodCalls(g.someHandle(chance), g.someHandle(chance))))
	case 5:
		g.start(now, someCall(chance))
	case 6:
		g.close(g.someHandle(chance))
	case 7:
		g.tick(now)
	case 8:
		g.take()
	case 9:
		g.results()
	default:
		g.receive(now, g.reply(chance))
	}
}

// someHandle is mostly one that the table has.
func (g *ground) someHandle(chance *rand.Rand) int {
	list := g.w.handles()
	if len(list) == 0 || chance.Intn(10) == 0 {
		return chance.Intn(70) - 3
	}
	return pick(chance, list).No
}

// someCall has fields that are set without a rule.
func someCall(chance *rand.Rand) api.Call {
	some := func(list ...int) int { return list[chance.Intn(len(list))] }
	text := func(list ...string) string { return list[chance.Intn(len(list))] }
	return api.Call{
		Op: some(-1, 0, 1, 2, 3, 4, 5, 6, 7, 8, 9, 10, 11), H: some(0, 0, 0, 1, 64), H2: some(0, 0, 0, 1, -1),
		Off: some(0, 0, 0, 1, -1, api.MaxSize, api.MaxSize+1), Len: some(0, 0, 1, 16, 17, 1024, 1025),
		Path: text("", "", "/", "/a", "a"), Name: text("", "", "a", "."), Name2: text("", "", "a", "/"), Data: make([]byte, some(0, 0, 0, 1, 1024, 1025)),
	}
}

// reply is a datagram that is mostly an answer: to an outstanding request, with the id that a looking up must lead to, of the known boot or of another one.
func (g *ground) reply(chance *rand.Rand) []byte {
	g.t.Helper()
	var r api.Request
	if list := g.c.Waiting(); len(list) > 0 && chance.Intn(8) > 0 {
		r = g.w.sent[pick(chance, list).Seq]
	} else {
		r = api.Request{Client: g.w.id, Seq: max(1, g.w.x.Ack()-1+chance.Intn(g.w.window+4)), Op: 1 + chance.Intn(10)}
	}
	epoch := max(1, g.w.x.Epoch())
	if chance.Intn(6) == 0 {
		epoch = max(1, epoch-2+chance.Intn(4))
	}
	p := goodReply(r, epoch, g.idOf(r, chance))
	switch chance.Intn(12) {
	case 0, 1:
		p = api.Reply{Client: r.Client, Seq: r.Seq, Epoch: epoch + 1, Op: r.Op, Status: api.ErrEpoch}
	case 2:
		p = api.Reply{Client: r.Client, Seq: r.Seq, Epoch: epoch, Op: r.Op, Status: pick(chance, statuses())}
	case 3:
		p = api.Reply{Client: r.Client, Seq: r.Seq, Epoch: epoch, Op: r.Op, Status: api.ErrBusy}
	case 4:
		p.Client = chance.Intn(api.MaxClients)
	}
	b := datagram(g.t, p)
	if chance.Intn(20) == 0 {
		b[chance.Intn(len(b))] ^= byte(1 + chance.Intn(255))
	}
	return b
}

// idOf is mostly the id of a record that has the request's path.
func (g *ground) idOf(r api.Request, chance *rand.Rand) int {
	at := slices.IndexFunc(g.w.records, func(h api.Handle) bool { return h.Path == r.Path })
	if at < 0 || chance.Intn(10) == 0 {
		return 256 + chance.Intn(600)
	}
	return g.w.records[at].Id
}

// TestP19ByChance: long stories of all windows; times that go on in steps great and small, and back.
func TestP19ByChance(t *testing.T) {
	for window := 1; window <= api.MaxWindow; window++ {
		for i, p := range []api.Params{usual, {Min: 1, First: 1, Max: 1}, {Min: 3, First: 20, Max: api.MaxTicks}} {
			t.Run(fmt.Sprint(window, i), func(t *testing.T) {
				t.Parallel()
				chance := rand.New(rand.NewSource(int64(100*window + i)))
				for _, step := range []int{1, 3, 2 * p.Max} {
					g := groundOf(t, chance.Intn(api.MaxClients), window, p)
					now := 0
					for range 1500 {
						now += chance.Intn(1+step) - chance.Intn(2)
						g.byChance(chance, now)
					}
					g.take()
					g.results()
					if len(g.w.calls) < 100 || len(g.w.sent) < len(g.w.calls)+50 {
						t.Fatalf("a poor story: %d calls, %d wire requests", len(g.w.calls), len(g.w.sent))
					}
				}
			})
		}
	}
}

// oldest and newest answer an outstanding request, if there is one.
func (g *ground) oldest(now int, status api.Errno, epoch int) { g.answerAt(now, 0, status, epoch) }
func (g *ground) newest(now int, status api.Errno, epoch int) {
	g.answerAt(now, len(g.c.Waiting())-1, status, epoch)
}

func (g *ground) answerAt(now, at int, status api.Errno, epoch int) {
	g.t.Helper()
	if list := g.c.Waiting(); at >= 0 && at < len(list) {
		r := g.w.sent[list[at].Seq]
		if status == api.OK {
			g.answer(now, r, epoch, 256+len(r.Path))
		} else {
			g.refuse(now, r, epoch, status)
		}
	}
}

// TestP19EveryStory: all that can happen in some calls of a client with two handles, of which two calls may fly.
func TestP19EveryStory(t *testing.T) {
	choices := []func(g *ground, now int){
		func(g *ground, now int) { g.start(now, look("/a/b")) },
		func(g *ground, now int) { g.start(now, api.Call{Op: api.Getattr, H: 0}) },
		func(g *ground, now int) { g.start(now, api.Call{Op: api.Rename, H: 1, Name: "x", H2: 0, Name2: "y"}) },
		func(g *ground, now int) { g.oldest(now, api.OK, max(1, g.w.x.Epoch())) },
		func(g *ground, now int) { g.newest(now, api.OK, max(1, g.w.x.Epoch())) },
		func(g *ground, now int) { g.oldest(now, api.ErrEpoch, g.w.x.Epoch()+1) },
		func(g *ground, now int) { g.newest(now, api.ErrEpoch, g.w.x.Epoch()+1) },
		func(g *ground, now int) { g.oldest(now, api.ErrNoEnt, 1) },
		func(g *ground, now int) { g.close(0) },
	}
	const calls = 5
	many := 1
	for range calls {
		many *= len(choices)
	}
	const parts = 8
	for part := range parts {
		t.Run(fmt.Sprint(part), func(t *testing.T) {
			t.Parallel()
			for n := part; n < many; n += parts {
				g := groundOf(t, 1, 2, usual)
				g.handle("/", 257, 1)
				g.handle("/a", 258, 1)
				for rest, i := n, 0; i < calls; i++ {
					choices[rest%len(choices)](g, i)
					rest /= len(choices)
				}
				g.take()
				g.results()
			}
		})
	}
}
