package world_test

import (
	"bytes"
	"fmt"
	"math/rand"
	"slices"
	"testing"

	"annex/api"
)

// profile is how often, by chance, what kind of step is done.
type profile struct {
	name                                             string
	call, tick, serve, give, lose, spoil, crash, run int
	wild                                             int // steps with arguments that may not be
}

var profiles = []profile{
	{"calm", 10, 4, 6, 14, 1, 0, 0, 2, 0},
	{"lossy", 10, 8, 6, 12, 9, 0, 0, 2, 0},
	{"spoilt", 10, 4, 6, 12, 4, 8, 0, 2, 1},
	{"crashing", 10, 4, 8, 14, 2, 0, 5, 2, 0},
	{"wild", 8, 4, 6, 12, 5, 5, 4, 2, 6},
}

// chance makes up a play for a ground, step by step.
type chance struct {
	g *ground
	r *rand.Rand
	profile
}

func chanceOf(g *ground, seed int64, p profile) *chance {
	return &chance{g: g, r: rand.New(rand.NewSource(seed)), profile: p}
}

// op is the next step.
func (c *chance) op() api.Op {
	list := []struct {
		often int
		make  func() api.Op
	}{
		{c.call, c.someCall}, {c.tick, c.someTick}, {c.serve, c.someServe}, {c.give, c.someGive}, {c.lose, c.someLoss}, {c.spoil, c.someSpoiling}, {c.crash, c.someCrash}, {c.run, c.someRun}, {c.wild, c.anything},
	}
	all := 0
	for _, x := range list {
		all += x.often
	}
	if c.r.Intn(2) == 0 {
		return c.useful()
	}
	if len(c.g.told.row) > 40 && c.r.Intn(2) == 0 { // else the new ones would seldom arrive
		return api.Op{Kind: []int{api.OpDrop, api.OpGive}[c.r.Intn(2)], K: c.someNo()}
	}
	n := c.r.Intn(all)
	for _, x := range list {
		if n -= x.often; n < 0 {
			return x.make()
		}
	}
	return api.Op{Kind: api.OpLook}
}

// useful is what lets calls come on: the newest of what is under way comes, what waits is served, what is down is mended.
func (c *chance) useful() api.Op {
	many := len(c.g.told.row)
	switch {
	case !c.g.told.up:
		return c.mends()
	case slices.Max(c.g.told.v.Waits()) > 0 && c.r.Intn(3) > 0:
		return api.Op{Kind: api.OpServe, K: 1}
	case many > 0:
		return api.Op{Kind: api.OpGive, K: c.g.told.row[many-1-c.r.Intn(1+c.r.Intn(min(many, 4)))].No}
	}
	return c.someCall()
}

func (c *chance) someTick() api.Op { return api.Op{Kind: api.OpTick, K: 1 + c.r.Intn(1+c.r.Intn(20))} }

func (c *chance) someServe() api.Op { return api.Op{Kind: api.OpServe, K: 1 + c.r.Intn(3)} }

func (c *chance) someRun() api.Op { return api.Op{Kind: api.OpRun, K: 1 + c.r.Intn(3)} }

// someNo is mostly a number under way, one of the last ones rather.
func (c *chance) someNo() int {
	many := len(c.g.told.row)
	if many == 0 || c.r.Intn(20) == 0 {
		return c.r.Intn(c.g.told.given + 3)
	}
	if c.r.Intn(2) == 0 {
		return c.g.told.row[many-1-c.r.Intn(min(many, 4))].No
	}
	return c.g.told.row[c.r.Intn(many)].No
}

func (c *chance) someGive() api.Op { return api.Op{Kind: api.OpGive, K: c.someNo()} }

func (c *chance) someLoss() api.Op {
	return api.Op{Kind: []int{api.OpDrop, api.OpCopy}[c.r.Intn(2)], K: c.someNo()}
}

func (c *chance) someSpoiling() api.Op {
	if c.r.Intn(3) == 0 {
		data := make([]byte, c.r.Intn(60))
		c.r.Read(data)
		return api.Op{Kind: api.OpJunk, A: c.r.Intn(c.g.told.shape.Clients+1) - 1, Data: data}
	}
	return api.Op{Kind: api.OpFlip, K: c.someNo(), M: c.r.Intn(60), X: 1 + c.r.Intn(255)}
}

// someCrash lets the power fail later or now, or mends it.
func (c *chance) someCrash() api.Op {
	if c.g.told.up && c.r.Intn(3) > 0 {
		return api.Op{Kind: api.OpArm, K: c.r.Intn(25)}
	}
	return c.mends()
}

// mends is a boot, or a crash ahead of it, with whatever survives; seldom the power fails in the boot.
func (c *chance) mends() api.Op {
	if !c.g.told.up && c.g.told.d.Power() {
		if c.r.Intn(6) == 0 {
			return api.Op{Kind: api.OpArm, K: 1 + c.r.Intn(8)}
		}
		return api.Op{Kind: api.OpBoot}
	}
	keep := make([]bool, c.r.Intn(len(c.g.told.d.Pending())+2))
	for i := range keep {
		keep[i] = c.r.Intn(2) == 0
	}
	return api.Op{Kind: api.OpCrash, Keep: keep}
}

// someHandle is mostly one that the client has.
func (c *chance) someHandle(a int) int {
	list := c.g.told.clients[a].Handles()
	if len(list) == 0 || c.r.Intn(15) == 0 {
		return c.r.Intn(3)
	}
	return list[c.r.Intn(len(list))].No
}

func (c *chance) name() string { return string(rune('a' + c.r.Intn(1+c.r.Intn(4)))) }

func (c *chance) path() string {
	path := ""
	for range c.r.Intn(3) {
		path += "/" + c.name()
	}
	if path == "" {
		return "/"
	}
	return path
}

// someCall is a call of a client, seldom the closing of a handle.
func (c *chance) someCall() api.Op {
	a := c.r.Intn(c.g.told.shape.Clients)
	if len(c.g.told.clients[a].Handles()) > 8 || c.r.Intn(30) == 0 {
		return api.Op{Kind: api.OpClose, A: a, K: c.someHandle(a)}
	}
	if len(c.g.told.clients[a].Flying()) == c.g.told.shape.Window && c.r.Intn(10) > 0 {
		return c.someTick() // its window is full
	}
	call := api.Call{Op: 1 + c.r.Intn(10)}
	if call.Op == api.Lookup || len(c.g.told.clients[a].Handles()) == 0 {
		return api.Op{Kind: api.OpCall, A: a, Call: api.Call{Op: api.Lookup, Path: c.path()}}
	}
	call.H = c.someHandle(a)
	switch call.Op {
	case api.Read:
		call.Off, call.Len = c.r.Intn(600), 1+c.r.Intn(700)
	case api.Write:
		call.Off, call.Data = c.r.Intn(1+c.r.Intn(4000)), bytes.Repeat([]byte(c.name()), 1+c.r.Intn(1+c.r.Intn(1024)))
	case api.Create, api.Mkdir, api.Remove, api.Rmdir:
		call.Name = c.name()
	case api.Rename:
		call.Name, call.H2, call.Name2 = c.name(), c.someHandle(a), c.name()
	case api.Readdir:
		call.Name, call.Len = []string{"", c.name()}[c.r.Intn(2)], 1+c.r.Intn(16)
	}
	return api.Op{Kind: api.OpCall, A: a, Call: call}
}

// anything is a step with what may not be, or with fields of all kinds.
func (c *chance) anything() api.Op {
	some := func(list ...int) int { return list[c.r.Intn(len(list))] }
	switch c.r.Intn(3) {
	case 0:
		return api.Op{Kind: api.OpLook}
	case 1:
		return printable(api.Op{Kind: some(api.OpBoot, api.OpCrash, api.OpArm), K: c.r.Intn(40)})
	}
	o := api.Op{Kind: 1 + c.r.Intn(14), A: some(0, 0, 1, -1, 8), K: some(0, 1, 1, 2, 101, 1001, c.someNo()), M: some(0, 1, 50, 5000, -1), X: some(0, 1, 255, 256)}
	switch o.Kind {
	case api.OpCall:
		o = c.someCall()
		o.A = some(o.A, -1, c.g.told.shape.Clients)
		o.Call.Len, o.Call.Name2 = some(o.Call.Len, -1, 1025), []string{o.Call.Name2, "."}[c.r.Intn(2)]
	case api.OpJunk:
		o.K, o.M, o.X, o.Data = 0, 0, 0, make([]byte, c.r.Intn(9))
	case api.OpCrash:
		o.Keep = make([]bool, c.r.Intn(9))
	}
	return printable(o)
}

// printable is a step without what its kind does not have, so that it can be written as a play's line; numbers below 0 only where they can be written.
func printable(o api.Op) api.Op {
	switch o.Kind {
	case api.OpCall:
		o.A = max(o.A, 0)
		o.Call.Len = max(o.Call.Len, 0)
		if o.Call.Op != api.Read && o.Call.Op != api.Readdir {
			o.Call.Len = 0
		}
		if o.Call.Op != api.Rename {
			o.Call.Name2 = ""
		}
	case api.OpClose:
		o.A, o.M, o.X = max(o.A, 0), 0, 0
	case api.OpFlip:
		o.A, o.M = 0, max(o.M, 0)
	case api.OpTick, api.OpServe, api.OpGive, api.OpDrop, api.OpCopy, api.OpArm, api.OpRun:
		o.A, o.M, o.X = 0, 0, 0
	case api.OpCrash:
		o = api.Op{Kind: o.Kind, Keep: o.Keep}
	case api.OpBoot, api.OpLook:
		o = api.Op{Kind: o.Kind}
	}
	return o
}

// enough is how many calls must have returned in all plays of a shape; those of the narrow one are held up for good, where all that is kept is above a watermark.
var enough = []int{400, 700, 50, 1200}

// TestP22_4ByChance: long plays of all shapes, calm ones and others; each step's events, and what can be seen from outside, are the second telling's.
func TestP22_4ByChance(t *testing.T) {
	for i, s := range shapes() {
		t.Run(fmt.Sprint(i), func(t *testing.T) {
			t.Parallel()
			kinds := map[int]int{}
			for _, p := range profiles {
				for seed := range int64(4) {
					g := groundOf(t, s, []api.Params{usual, {Min: 1, First: 1, Max: 3}}[seed%2])
					c := chanceOf(g, 100*int64(i)+seed, p)
					for n := range 600 {
						for _, e := range g.step(c.op()) {
							kinds[e.Kind]++
						}
						if n%20 == 0 {
							g.step(api.Op{Kind: api.OpLook})
							g.holds()
						}
					}
				}
			}
			if kinds[api.EvReturned] < enough[i] || kinds[api.EvUp] < 50 {
				t.Fatalf("poor plays: %v", kinds)
			}
		})
	}
}

// TestP22_4EveryPlay: all that can happen in some steps, with two calls of two clients, a server that comes and goes, and numbers of datagrams that are there or not.
func TestP22_4EveryPlay(t *testing.T) {
	choices := opsOf(t, "call 0 lookup /;call 1 lookup /;tick 8;serve 1;give 1;give 2;copy 1;drop 2;flip 1 9 1;arm 2;crash 1;boot;run 1")
	for _, start := range []string{"call 0 lookup /", "call 0 lookup /;give 1;serve 1"} {
		for n := range len(choices) * len(choices) * len(choices) {
			g := groundOf(t, pairOf, usual)
			g.does(start)
			for rest, i := n, 0; i < 3; i++ {
				g.step(choices[rest%len(choices)])
				rest /= len(choices)
			}
			g.step(api.Op{Kind: api.OpLook})
			g.holds()
		}
	}
}
