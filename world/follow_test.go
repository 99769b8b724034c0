package world_test

import (
	"fmt"
	"maps"
	"math/rand"
	"slices"
	"testing"

	"annex/api"
	"annex/msg"
)

// honest are shapes in which nobody honest hears BUSY: Window is at most Places, Clients times Window at most Cache.
func honest() []api.Shape {
	return []api.Shape{
		{Clients: 1, Window: 1, Places: 1, Cache: 1, Inodes: 4, Quota: 900, Data: 18, Journal: 27},
		{Clients: 2, Window: 2, Places: 2, Cache: 4, Inodes: 5, Quota: 1500, Data: 24, Journal: 27},
		{Clients: 3, Window: 2, Places: 5, Cache: 7, Inodes: 8, Quota: 3000, Data: 40, Journal: 33},
		{Clients: 2, Window: 8, Places: 8, Cache: 16, Inodes: 16, Quota: 4000, Data: 80, Journal: 27},
	}
}

// TestP0_12Whole: P0.12, P0.13, P0.16 and P0.17, of plays of all kinds: what is lost, doubled, late, flipped once, junk, and power that fails in any step and any boot, with whatever survives.
func TestP0_12Whole(t *testing.T) {
	ends := make(chan map[api.Errno]int, 1000)
	again := make(chan int, 1000)
	shapes := append(honest(), pairOf, narrow)
	t.Run("", func(t *testing.T) {
		for i, s := range shapes {
			for _, p := range profiles {
				for seed := range int64(3) {
					t.Run(fmt.Sprint(i, p.name, seed), func(t *testing.T) {
						t.Parallel()
						w := watch(t, s, []api.Params{usual, {Min: 1, First: 2, Max: 4}, {Min: 3, First: 20, Max: 40}}[seed])
						c := chanceOf(w.ground, 1000*int64(i)+seed, p)
						for range 400 {
							switch o := c.op(); o.Kind {
							case api.OpRun:
								w.round()
							case api.OpServe:
								for range o.K {
									w.happens(api.Op{Kind: api.OpServe, K: 1})
								}
							default:
								w.happens(o)
							}
						}
						w.flies()
						ends <- w.ended
						again <- w.again
					})
				}
			}
		}
	})
	close(ends)
	close(again)
	sum, stale := map[int]int{}, 0
	for e := range ends {
		for code, n := range e {
			sum[int(code)] += n
		}
	}
	for n := range again {
		stale += n
	}
	for _, code := range []api.Errno{api.OK, api.ErrStale, api.ErrInodes, api.ErrNoEnt, api.ErrExist, api.ErrNotDir, api.ErrIsDir, api.ErrNotEmpty, api.ErrQuota} {
		if sum[int(code)] < 3 {
			t.Errorf("the calls ended poorly: %v, %d since paths led elsewhere", sum, stale)
		}
	}
	is(t, "whether paths led elsewhere", stale > 20, true)
}

// fly tells how many calls fly.
func (g *ground) fly() int {
	many := 0
	for _, c := range g.told.clients {
		many += len(c.Flying())
	}
	return many
}

// ends is P22.9 of a world in some state: the power is mended, and then all calls end within so many rounds; the answer is in how many.
func (g *ground) ends(p api.Params) int {
	g.t.Helper()
	g.step(api.Op{Kind: api.OpArm})
	if !g.told.up {
		g.does("crash \"\";boot")
	}
	for round := range 16*(p.Max+1) + 1 {
		if g.fly() == 0 {
			return round
		}
		g.step(api.Op{Kind: api.OpRun, K: 1})
	}
	g.t.Fatalf("behind %d rounds %d calls fly", 16*(p.Max+1), g.fly())
	return 0
}

// unspoilt are the profiles without junk and flips.
func unspoilt() []profile {
	return []profile{
		profiles[0], profiles[1], profiles[3],
		{"silent", 10, 6, 2, 2, 6, 0, 1, 0, 0},
		{"stormy", 10, 6, 6, 8, 12, 0, 9, 1, 0},
	}
}

// TestP22_9Ends: from states of all kinds.
func TestP22_9Ends(t *testing.T) {
	for i, s := range honest() {
		for j, p := range unspoilt() {
			t.Run(fmt.Sprint(i, p.name), func(t *testing.T) {
				t.Parallel()
				flew, most := 0, 0
				for seed := range int64(12) {
					params := []api.Params{{Min: 1, First: 1, Max: 1}, {Min: 1, First: 1, Max: 2}, {Min: 2, First: 3, Max: 5}, {Min: 7, First: 7, Max: 7}, usual, {Min: 1, First: 20, Max: 20}}[seed%6]
					g := groundOf(t, s, params)
					c := chanceOf(g, 10000*int64(i)+100*int64(j)+seed, p)
					for range 20 + c.r.Intn(200) {
						g.step(c.op())
					}
					flew += g.fly()
					most = max(most, g.ends(params))
				}
				is(t, "whether calls flew", flew > 5, true)
				is(t, "whether it took some rounds", most > 0, true)
			})
		}
	}
}

// TestP22_9EndsBehindMaxOps: from a state behind as many steps as a play may have, many of them ticks for which nobody serves, so that no more can be under way.
func TestP22_9EndsBehindMaxOps(t *testing.T) {
	for i, s := range honest() {
		g := groundOf(t, s, api.Params{Min: 1, First: 1, Max: 3})
		c := chanceOf(g, int64(i), unspoilt()[4])
		for range api.MaxOps - 100 {
			g.step(c.op())
		}
		for len(g.told.row) < api.MaxUnder {
			if o := c.someCall(); g.fly() == 0 {
				g.step(o)
			}
			g.step(api.Op{Kind: api.OpTick, K: 1000})
		}
		is(t, "whether calls fly", g.fly() > 0, true)
		g.ends(api.Params{Min: 1, First: 1, Max: 3})
	}
}

// TestP22_9TwoHandles: the longest way: a rename whose handles are both of an older epoch, whose looking up is answered by a kept reply of an older epoch, and a boot behind each of its requests.
func TestP22_9TwoHandles(t *testing.T) {
	params := api.Params{Min: 1, First: 1, Max: 2}
	for boots := range 12 {
		g := groundOf(t, honest()[1], params)
		g.does("call 0 lookup /;run 3;call 0 mkdir 0 a;run 3;call 0 mkdir 0 b;run 3;call 0 create 1 x;run 3")
		g.does("crash \"\";boot;call 0 rename 1 x 2 y;call 0 rename 2 y 1 x")
		for range boots {
			g.does("tick 1")
			for _, f := range slices.Clone(g.told.row) {
				g.step(api.Op{Kind: api.OpGive, K: f.No})
			}
			g.does("serve 4;crash \"\";boot")
			for _, f := range slices.Clone(g.told.row) {
				g.step(api.Op{Kind: api.OpGive, K: f.No})
			}
		}
		g.ends(params)
	}
}

// TestP0_15OneRound: P0.15's second half: a sending that arrives, all steps that may be needed, and a reply that was sent behind that arrival: the request is answered.
func TestP0_15OneRound(t *testing.T) {
	for i, s := range honest() {
		for seed := range int64(40) {
			g := groundOf(t, s, usual)
			c := chanceOf(g, 100*int64(i)+seed, unspoilt()[seed%5])
			for range 30 + c.r.Intn(100) {
				g.step(c.op())
			}
			g.step(api.Op{Kind: api.OpArm})
			if !g.told.up {
				g.does("crash \"\";boot")
			}
			a := c.r.Intn(s.Clients)
			list := g.told.clients[a].Waiting()
			if len(list) == 0 {
				continue
			}
			seq := list[c.r.Intn(len(list))].Seq
			g.does("tick 64") // it is sent again
			before := g.told.given
			g.step(api.Op{Kind: api.OpGive, K: g.lastRequest(a, seq)})
			g.step(api.Op{Kind: api.OpServe, K: s.Clients * s.Places})
			replies := g.repliesBehind(before, a, seq)
			is(t, "whether there is a reply", len(replies) > 0, true)
			g.step(api.Op{Kind: api.OpGive, K: replies[c.r.Intn(len(replies))]})
			is(t, "whether it waits still", slices.ContainsFunc(g.told.clients[a].Waiting(), func(x api.Waiting) bool { return x.Seq == seq }), false)
		}
	}
}

// lastRequest is the number of the last sending of a request.
func (g *ground) lastRequest(client, seq int) int {
	no := 0
	for _, f := range g.told.row {
		if r, code := msg.DecodeRequest(f.Data); code == api.OK && r.Client == client && r.Seq == seq {
			no = f.No
		}
	}
	return no
}

// repliesBehind are the numbers of the replies to a request that were sent behind a number.
func (g *ground) repliesBehind(no, client, seq int) []int {
	var list []int
	for _, f := range g.told.row {
		if r, code := msg.DecodeReply(f.Data); code == api.OK && f.No > no && r.Client == client && r.Seq == seq {
			list = append(list, f.No)
		}
	}
	return list
}

// foe is who lets things arrive as late and as seldom as P0.14 lets him: of any so many transmissions in a row of one client, seq and direction one arrives, within so many ticks; and so many crashes.
type foe struct {
	*ground
	r       *rand.Rand
	row     int            // K
	late    int            // D
	crashes int            // F
	lost    map[[3]int]int // by client, seq and direction: how many in a row
	due     map[int]int    // when a number arrives
	seen    int
}

// judges decides what becomes of what has been sent.
func (f *foe) judges() {
	for _, x := range slices.Clone(f.told.row) {
		if x.No <= f.seen {
			continue
		}
		f.seen = x.No
		key := [3]int{}
		if r, code := msg.DecodeRequest(x.Data); code == api.OK {
			key = [3]int{r.Client, r.Seq, 0}
		} else {
			r, _ := msg.DecodeReply(x.Data)
			key = [3]int{r.Client, r.Seq, 1}
			is(f.t, "whether somebody hears BUSY", r.Status == api.ErrBusy, false)
		}
		if f.lost[key] < f.row-1 && f.r.Intn(8) > 0 {
			f.lost[key]++
			f.does(fmt.Sprint("drop ", x.No))
			continue
		}
		f.lost[key] = 0
		f.due[x.No] = f.told.now + f.r.Intn(f.late+1)
	}
}

// arrives lets come what is due; what is sent by that is judged at once, and may come at once.
func (f *foe) arrives() {
	for {
		f.judges()
		no := 0
		for _, n := range slices.Sorted(maps.Keys(f.due)) {
			if f.due[n] <= f.told.now {
				no = n
				break
			}
		}
		if no == 0 {
			return
		}
		delete(f.due, no)
		f.does(fmt.Sprint("give ", no))
	}
}

// TestP0_14InTime: P0.14.
func TestP0_14InTime(t *testing.T) {
	for i, s := range honest() {
		for seed := range int64(6) {
			t.Run(fmt.Sprint(i, seed), func(t *testing.T) {
				t.Parallel()
				params := api.Params{Min: 1, First: 2, Max: 4}
				g := groundOf(t, s, params)
				f := &foe{ground: g, r: rand.New(rand.NewSource(seed)), row: 1 + int(seed)%3, late: int(seed), crashes: int(seed) % 3, lost: map[[3]int]int{}, due: map[int]int{}}
				bound := (1 + 3*f.crashes) * (s.Window + 1) * (f.crashes + 1) * (f.row*(f.row+1)*params.Max + 3*f.late + 4)
				c := chanceOf(g, seed, profiles[0])
				left := f.crashes
				begun, longest, calls := map[wire]int{}, 0, 0
				for n := range 400 {
					if o := c.someCall(); o.Kind == api.OpCall && g.step(o)[0].Kind == api.EvStarted {
						calls++
					}
					g.step(api.Op{Kind: api.OpTick, K: 1})
					f.arrives()
					if left > 0 && n%131 == 130 {
						left--
						g.step(api.Op{Kind: api.OpArm, K: 1 + f.r.Intn(9)})
					}
					for done := false; !done; done = g.told.up {
						g.does(fmt.Sprint("serve ", s.Clients*s.Places))
						if !g.told.up {
							g.does("crash 0101;boot")
						}
					}
					f.arrives()
					for a, x := range g.told.clients {
						for _, n := range x.Flying() {
							if begun[wire{a, n}] == 0 {
								begun[wire{a, n}] = g.told.now
							}
							longest = max(longest, g.told.now-begun[wire{a, n}])
						}
					}
				}
				is(t, "whether a call flew for too long", longest > bound, false)
				is(t, "whether calls were begun", calls > 5, true)
			})
		}
	}
}
