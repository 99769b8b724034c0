package rtx_test

import (
	"fmt"
	"math/rand"
	"testing"

	"annex/api"
)

// byChance does one call of any kind, with good arguments and with others, and holds it against the second telling.
func (g *ground) byChance(chance *rand.Rand, now int) {
	g.t.Helper()
	switch chance.Intn(10) {
	case 0, 1:
		g.send(now, pick(chance, requests()))
	case 2:
		g.send(now, pick(chance, wrongs()).r)
	case 3, 4:
		g.tick(now)
	case 5:
		g.take()
	default:
		g.receive(now, g.reply(chance))
	}
}

// reply is a datagram that is mostly near to an answer: a seq around the window, the right operation or another one.
func (g *ground) reply(chance *rand.Rand) []byte {
	g.t.Helper()
	seq, op := max(1, g.w.ack-1+chance.Intn(g.w.window+4)), 1+chance.Intn(10)
	for _, r := range g.w.rows {
		if r.Seq == seq && chance.Intn(4) > 0 {
			op = r.op
		}
	}
	p := replyTo(g.w.client, seq, 1+chance.Intn(1+g.w.next), op)
	switch chance.Intn(8) {
	case 0:
		p = api.Reply{Client: p.Client, Seq: p.Seq, Epoch: p.Epoch, Op: op, Status: pick(chance, statuses()[1:])}
	case 1:
		p = api.Reply{Client: p.Client, Seq: p.Seq, Epoch: p.Epoch, Op: op, Status: api.ErrBusy}
	case 2:
		p.Client = chance.Intn(api.MaxClients)
	}
	b := datagram(g.t, p)
	if chance.Intn(10) == 0 {
		b[chance.Intn(len(b))] ^= byte(1 + chance.Intn(255))
	}
	return b
}

// TestP18ByChance: long stories of all windows and params; times that go on in steps great and small, and back.
func TestP18ByChance(t *testing.T) {
	for window := 1; window <= api.MaxWindow; window++ {
		for i, p := range someParams() {
			t.Run(fmt.Sprint(window, i), func(t *testing.T) {
				t.Parallel()
				chance := rand.New(rand.NewSource(int64(100*window + i)))
				for _, step := range []int{1, 3, 2 * p.Max} {
					g := groundOf(t, chance.Intn(api.MaxClients), window, p)
					now := 0
					for range 600 {
						now += chance.Intn(1+step) - chance.Intn(2)
						g.byChance(chance, now)
					}
					g.take()
				}
			})
		}
	}
}

// TestP18EveryStory: all that can happen in some calls of a small transport.
func TestP18EveryStory(t *testing.T) {
	p := api.Params{Min: 1, First: 2, Max: 5}
	choices := []func(g *ground, now int){
		func(g *ground, now int) { g.send(now, look("/")) },
		func(g *ground, now int) { g.receive(now, found(t, 1, 1, 1)) },
		func(g *ground, now int) { g.receive(now, found(t, 1, 2, 2)) },
		func(g *ground, now int) { g.receive(now, refused(t, 1, 1, 3, api.Lookup, api.ErrBusy)) },
		func(g *ground, now int) { g.tick(now) },
		func(g *ground, now int) { g.tick(now + 2) },
		func(g *ground, now int) { g.take() },
	}
	const calls = 6
	many := 1
	for range calls {
		many *= len(choices)
	}
	for n := range many {
		g := groundOf(t, 1, 2, p)
		for rest, i := n, 0; i < calls; i++ {
			choices[rest%len(choices)](g, i)
			rest /= len(choices)
		}
		g.take()
	}
}
