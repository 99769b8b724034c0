package world_test

import (
	"bytes"
	"fmt"
	"reflect"
	"runtime"
	"slices"
	"strings"
	"sync"
	"testing"
	"weak"

	"annex/api"
	"annex/world"
)

// spoil writes over all that can be reached from a row of bytes, its spare room too, and appends to it.
func spoil(list []byte) {
	room := list[:cap(list)]
	for i := range room {
		room[i] ^= 0xff
	}
	_ = append(list, 1, 2, 3)
	_ = append(list[:0], 4)
}

// spoilList writes x into a list, into its spare room, and behind it.
func spoilList[T any](list []T, x T) {
	room := list[:cap(list)]
	for i := range room {
		room[i] = x
	}
	_ = append(list, x)
	_ = append(list[:0], x)
}

// spoilEvents spoils events and all that they have.
func spoilEvents(list []api.Event) {
	for _, e := range list {
		for _, b := range [][]byte{e.Call.Data, e.Result.Data, e.Kept.Data, e.Flight.Data} {
			spoil(b)
		}
		spoilList(e.Result.List, api.Entry{Name: "spoilt"})
	}
	spoilList(list, api.Event{Kind: 99, A: 99})
}

func spoilFlights(list []api.Flight) {
	for _, f := range list {
		spoil(f.Data)
	}
	spoilList(list, api.Flight{No: 99})
}

// TestP22_8HandedIn: a step's lists are neither changed, spare room neither, nor kept: what becomes of them later is not seen.
func TestP22_8HandedIn(t *testing.T) {
	for seed := range int64(10) {
		for _, p := range profiles {
			g := groundOf(t, pairOf, usual)
			c := chanceOf(g, seed, p)
			for range 150 {
				o := c.op()
				mine := o
				room := append(bytes.Clone(o.Data), "the room behind it"...)
				callRoom := append(bytes.Clone(o.Call.Data), "the room behind it"...)
				keepRoom := append(slices.Clone(o.Keep), true, false, true)
				mine.Data, mine.Call.Data, mine.Keep = room[:len(o.Data)], callRoom[:len(o.Call.Data)], keepRoom[:len(o.Keep)]
				got, want := g.w.Step(mine), g.told.step(o)
				is(t, "the events", wholes(got), wholes(want))
				is(t, "Data", string(room), string(o.Data)+"the room behind it")
				is(t, "Call.Data", string(callRoom), string(o.Call.Data)+"the room behind it")
				is(t, "Keep", slices.Equal(keepRoom, append(slices.Clone(o.Keep), true, false, true)), true)
				spoil(room[:len(o.Data)])
				spoil(callRoom[:len(o.Call.Data)])
				spoilList(keepRoom, true)
				is(t, "the events behind that", wholes(got), wholes(want))
				g.holds()
			}
		}
	}
}

// TestP22_8HandedOut: all that is handed out is spoilt; what comes behind it is as if nothing had been.
func TestP22_8HandedOut(t *testing.T) {
	for seed := range int64(10) {
		for _, p := range profiles {
			g := groundOf(t, pairOf, usual)
			c := chanceOf(g, seed, p)
			for n := range 150 {
				spoilEvents(g.step(c.op()))
				spoilFlights(g.w.Under())
				spoil(g.w.Durable())
				if n%4 == 0 {
					spoilEvents(g.step(api.Op{Kind: api.OpLook}))
				}
				g.holds()
			}
		}
	}
}

// memories are all rows of bytes and entries of events: where each begins, and how many bytes its room has.
func memories(list []api.Event) [][2]uintptr {
	var all [][2]uintptr
	add := func(v any, size int) {
		x := reflect.ValueOf(v)
		if x.Cap() > 0 {
			all = append(all, [2]uintptr{x.Pointer(), x.Pointer() + uintptr(x.Cap()*size)})
		}
	}
	for _, e := range list {
		add(e.Call.Data, 1)
		add(e.Result.Data, 1)
		add(e.Kept.Data, 1)
		add(e.Flight.Data, 1)
		add(e.Result.List, int(reflect.TypeFor[api.Entry]().Size()))
	}
	return all
}

// TestP22_8Apart: no two lists of answers share any memory, spare room neither: not of one answer, not of two, and none with what was handed in.
func TestP22_8Apart(t *testing.T) {
	g := groundOf(t, crowd, usual)
	data := []byte("hello")
	var all [][]api.Event
	for _, o := range opsOf(t, "call 0 lookup /;call 1 lookup /;run 1;call 0 create 0 a;run 1;call 0 read 1 0 9;call 0 readdir 0 \"\" 9;call 1 readdir 0 \"\" 9;run 1;junk 0 abcd;copy 18;look;look") {
		all = append(all, g.step(o))
	}
	o := api.Op{Kind: api.OpCall, A: 0, Call: api.Call{Op: api.Write, H: 1, Data: data}}
	all = append(all, g.step(o), g.step(o), g.step(api.Op{Kind: api.OpRun, K: 1}))
	o = api.Op{Kind: api.OpCall, A: 0, Call: api.Call{Op: api.Read, H: 1, Len: 9}}
	all = append(all, g.step(o), g.step(o), g.step(api.Op{Kind: api.OpRun, K: 1}), g.step(api.Op{Kind: api.OpLook}), g.step(api.Op{Kind: api.OpLook}))
	var spans [][2]uintptr
	lists := 0
	for _, list := range all {
		spans = append(spans, memories(list)...)
		lists += len(list)
	}
	spans = append(spans, memories([]api.Event{{Call: api.Call{Data: data}}})...)
	for range 2 {
		for _, f := range g.w.Under() {
			spans = append(spans, memories([]api.Event{{Flight: f}})...)
		}
		spans = append(spans, memories([]api.Event{{Kept: api.Kept{Data: g.w.Durable()}}})...)
	}
	slices.SortFunc(spans, func(a, b [2]uintptr) int { return int(a[0]) - int(b[0]) })
	is(t, "how many lists there are", len(spans) > 30 && lists > 50, true)
	for i := 1; i < len(spans); i++ {
		is(t, "whether two lists lie one in the other", spans[i][0] < spans[i-1][1], false)
	}
	runtime.KeepAlive(all)
}

// TestP22_8EventsStay: events show what was, whatever happens later.
func TestP22_8EventsStay(t *testing.T) {
	for seed := range int64(4) {
		g := groundOf(t, pairOf, usual)
		c := chanceOf(g, seed, profiles[2])
		var lists [][]api.Event
		var were []string
		var under [][]api.Flight
		var lay []string
		for range 200 {
			list := append(g.step(c.op()), g.step(api.Op{Kind: api.OpLook})...)
			lists, were = append(lists, list), append(were, wholes(list))
			flights := g.w.Under()
			under, lay = append(under, flights), append(lay, fmt.Sprint(flights))
		}
		for i := range lists {
			is(t, "the events of a step", wholes(lists[i]), were[i])
			is(t, "the flights behind a step", fmt.Sprint(under[i]), lay[i])
		}
	}
}

// handsIn does steps with lists of their own, and tells that memory in a way that does not hold it.
func handsIn(w *world.World) []weak.Pointer[byte] {
	var list []weak.Pointer[byte]
	for n := range 40 {
		data := make([]byte, 700)
		list = append(list, weak.Make(&data[0]))
		w.Step(api.Op{Kind: api.OpJunk, A: n % 2, Data: data[:n*10]})
		data = make([]byte, 700)
		list = append(list, weak.Make(&data[0]))
		w.Step(api.Op{Kind: api.OpCall, A: n % 2, Call: api.Call{Op: api.Write, Data: data}})
	}
	return list
}

// TestP22_8NothingKept: no memory that was handed in is held, whether it has arrived or not.
func TestP22_8NothingKept(t *testing.T) {
	w := worldOf(t, pairOf, usual)
	for _, o := range opsOf(t, "call 0 lookup /;call 1 lookup /;run 1") {
		w.Step(o)
	}
	list := handsIn(w)
	is(t, "how many are under way", len(w.Under()) > 40, true)
	runtime.GC()
	for _, p := range list {
		is(t, "whether it is held", p.Value() != nil, false)
	}
	runtime.KeepAlive(w)
}

// bytesInUse is what is in use behind a collection.
func bytesInUse() int {
	runtime.GC()
	var m runtime.MemStats
	runtime.ReadMemStats(&m)
	return int(m.HeapAlloc)
}

// TestP22_8NothingBehind: what has happened leaves no memory in use, however much it was.
func TestP22_8NothingBehind(t *testing.T) {
	w := worldOf(t, pairOf, usual)
	for _, o := range opsOf(t, "call 0 lookup /;run 1;call 0 create 0 a;run 1") {
		w.Step(o)
	}
	before := bytesInUse()
	for range 3000 {
		w.Step(api.Op{Kind: api.OpCall, Call: api.Call{Op: api.Write, H: 1, Data: make([]byte, 1024)}})
		w.Step(api.Op{Kind: api.OpJunk, A: 1, Data: make([]byte, 1400)})
		w.Step(api.Op{Kind: api.OpRun, K: 1})
		w.Step(api.Op{Kind: api.OpLook})
	}
	is(t, "whether little is in use", bytesInUse()-before < 1<<18, true)
	runtime.KeepAlive(w)
}

// TestP22_8SameSteps: the same steps give the same history, in two worlds one beside the other and in Run.
func TestP22_8SameSteps(t *testing.T) {
	for seed := range int64(10) {
		g := groundOf(t, pairOf, usual)
		c := chanceOf(g, seed, profiles[int(seed)%len(profiles)])
		for range 200 {
			g.step(c.op())
		}
		var others [3]*world.World
		for i := range others {
			others[i] = worldOf(t, pairOf, usual)
		}
		for _, o := range g.done {
			one := wholes(others[0].Step(o))
			for _, w := range others[1:] {
				is(t, "the events in another world", wholes(w.Step(o)), one)
			}
		}
		for _, w := range others {
			is(t, "what lasts", bytes.Equal(w.Durable(), g.w.Durable()), true)
			sameFlights(t, w.Under(), g.told.row)
		}
	}
}

// TestP22_8SideBySide: worlds never see one another, step by step and at the same time.
func TestP22_8SideBySide(t *testing.T) {
	var grounds []*ground
	var chances []*chance
	for i := range 5 {
		g := groundOf(t, shapes()[i%4], usual)
		grounds = append(grounds, g)
		chances = append(chances, chanceOf(g, int64(i), profiles[i]))
	}
	for n := range 1500 {
		i := n * n % 11 % 5
		grounds[i].step(chances[i].op())
		if n%50 == 0 {
			for _, g := range grounds {
				g.holds()
			}
		}
	}
	text := strings.ReplaceAll(exampleWorld+examplePlay+";run 40;look", ";", "\n")
	want, _, _ := tellRun(text)
	var all sync.WaitGroup
	histories := make([]string, 16)
	for n := range histories {
		all.Go(func() { histories[n], _, _ = world.Run(text) })
	}
	all.Wait()
	for _, h := range histories {
		is(t, "a history beside others", h, want)
	}
}

// TestP22_8Together: hands that step one world at the same time, and others that look: each step is done whole, so that no number comes twice.
func TestP22_8Together(t *testing.T) {
	w := worldOf(t, crowd, usual)
	var hands sync.WaitGroup
	const each = 100
	calls := make([]int, 8)
	numbers := make([][]int, 8)
	for a := range 8 {
		hands.Go(func() {
			for range each {
				for _, o := range []api.Op{aCall(a), {Kind: api.OpTick, K: 7}, {Kind: api.OpRun, K: 1}, {Kind: api.OpJunk, A: a, Data: []byte{1, 2}}} {
					for _, e := range w.Step(o) {
						switch e.Kind {
						case api.EvStarted:
							calls[a]++
						case api.EvSent:
							numbers[a] = append(numbers[a], e.K)
						}
					}
				}
			}
		})
		hands.Go(func() {
			for range each {
				w.Now()
				for _, f := range w.Under() {
					if len(f.Data) == 0 {
						t.Errorf("the flight %d is empty", f.No)
					}
				}
				if len(w.Durable())%512 != 0 {
					t.Errorf("a piece of a device")
				}
			}
		})
	}
	hands.Wait()
	is(t, "the time", w.Now(), 8*each*8)
	seen := map[int]int{}
	for _, list := range numbers {
		for _, no := range list {
			seen[no]++
		}
	}
	for no, many := range seen {
		is(t, fmt.Sprintf("how often the number %d was given", no), many, 1)
	}
	for a, n := range calls {
		is(t, fmt.Sprintf("whether the client %d has made calls", a), n > each/2, true)
	}
}

// TestP22_8StepsAreWhole: a look from beside sees all ticks of a step, or none, and all datagrams of it, or none.
func TestP22_8StepsAreWhole(t *testing.T) {
	w := worldOf(t, pairOf, api.Params{Min: 1, First: 1, Max: 1})
	w.Step(aCall(0))
	var hands sync.WaitGroup
	for range 4 {
		hands.Go(func() {
			for range 10 {
				w.Step(api.Op{Kind: api.OpTick, K: 100})
			}
		})
		hands.Go(func() {
			for range 200 {
				if now := w.Now(); now%100 != 0 {
					t.Errorf("the time %d", now)
				}
				if many := len(w.Under()); many%100 != 1 {
					t.Errorf("%d are under way", many)
				}
			}
		})
	}
	hands.Wait()
	is(t, "the time", w.Now(), 4000)
	is(t, "how many are under way", len(w.Under()), 4001)
}
