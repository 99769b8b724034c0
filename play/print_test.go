package play_test

import (
	"math"
	"slices"
	"strings"
	"testing"

	"annex/api"
	"annex/play"
)

const most = 1073741824

// worldPlaces are the world's numbers in a play, in the order of their words.
func worldPlaces(p *api.Play) []*int {
	s, t := &p.Shape, &p.Params
	return []*int{&s.Clients, &s.Window, &s.Places, &s.Cache, &s.Inodes, &s.Quota, &s.Data, &s.Journal, &t.Min, &t.First, &t.Max}
}

// callPlaces are all numbers of a call but its Op.
func callPlaces(c *api.Call) []*int { return []*int{&c.H, &c.H2, &c.Off, &c.Len} }

// stepPlaces are all numbers of a step but its Kind.
func stepPlaces(o *api.Op) []*int {
	return append([]*int{&o.A, &o.K, &o.M, &o.X, &o.Call.Op}, callPlaces(&o.Call)...)
}

// fills put something into each list and each text of a step.
func fills() []func(*api.Op) {
	return []func(*api.Op){
		func(o *api.Op) { o.Data = []byte{0} },
		func(o *api.Op) { o.Keep = []bool{false} },
		func(o *api.Op) { o.Call.Path = "\x00" },
		func(o *api.Op) { o.Call.Name = "\x00" },
		func(o *api.Op) { o.Call.Name2 = "\x00" },
		func(o *api.Op) { o.Call.Data = []byte{0} },
	}
}

// anyTexts are texts of every sort.
func anyTexts() []string {
	list := []string{"", "/", "a", "//", "..", "a b", " ", "\t", "\n", "a\nb", "\"", "\\", `\x00`, `""`, "#", "a#b", "server", "0", "\xff\xfe", "é", "\x7f", "~", strings.Repeat("x", 5000), strings.Repeat("\x00", 700)}
	return append(list, bytesThat(func(byte) bool { return true }), bares)
}

// TestP21_2World: the world's numbers, each at its own place; a play without steps is one line.
func TestP21_2World(t *testing.T) {
	var p api.Play
	printsAs(t, p, "world 0 0 0 0 0 0 0 0 0 0 0\n", api.OK)
	for i, place := range worldPlaces(&p) {
		*place = i + 1
	}
	printsAs(t, p, "world 1 2 3 4 5 6 7 8 9 10 11\n", api.OK)
	p.Ops = []api.Op{}
	printsAs(t, p, "world 1 2 3 4 5 6 7 8 9 10 11\n", api.OK)
	for _, place := range worldPlaces(&p) {
		*place = most
	}
	printsAs(t, p, "world"+strings.Repeat(" 1073741824", 11)+"\n", api.OK)
}

// TestP21_2Steps: each step and each call is a line of its own, in their order.
func TestP21_2Steps(t *testing.T) {
	lines, list := sampleLines(), sampleSteps()
	for i, o := range list {
		printsAs(t, playOf(o), head+lines[i]+"\n", api.OK)
		for j, other := range list {
			printsAs(t, playOf(o, other, o), head+lines[i]+"\n"+lines[j]+"\n"+lines[i]+"\n", api.OK)
		}
	}
	printsAs(t, playOf(list...), head+strings.Join(lines, "\n")+"\n", api.OK)
}

// TestP21_2EveryNumber: decimal, each at its own place.
func TestP21_2EveryNumber(t *testing.T) {
	for _, o := range sampleSteps() {
		for _, place := range stepPlaces(&o) {
			was := *place
			for _, n := range edges() {
				*place = n
				prints(t, playOf(o))
			}
			*place = was
		}
	}
	printsAs(t, playOf(api.Op{Kind: api.OpFlip, K: most, M: 10, X: 0}), head+"flip 1073741824 10 0\n", api.OK)
}

// TestP21_2Texts: as Text writes them.
func TestP21_2Texts(t *testing.T) {
	for _, s := range anyTexts() {
		w := tellText(s)
		call := func(c api.Call) api.Op { return api.Op{Kind: api.OpCall, A: 3, Call: c} }
		printsAs(t, playOf(call(api.Call{Op: api.Lookup, Path: s})), head+"call 3 lookup "+w+"\n", api.OK)
		printsAs(t, playOf(call(api.Call{Op: api.Write, Data: []byte(s)})), head+"call 3 write 0 0 "+w+"\n", api.OK)
		for i, name := range []string{"create", "remove", "mkdir", "rmdir"} {
			printsAs(t, playOf(call(api.Call{Op: api.Create + i, Name: s})), head+"call 3 "+name+" 0 "+w+"\n", api.OK)
		}
		printsAs(t, playOf(call(api.Call{Op: api.Rename, Name: s})), head+"call 3 rename 0 "+w+" 0 \"\"\n", api.OK)
		printsAs(t, playOf(call(api.Call{Op: api.Rename, Name2: s})), head+"call 3 rename 0 \"\" 0 "+w+"\n", api.OK)
		printsAs(t, playOf(call(api.Call{Op: api.Readdir, Name: s})), head+"call 3 readdir 0 "+w+" 0\n", api.OK)
	}
}

// TestP21_2Junk: small hex digits, none for no bytes, and the word server for -1.
func TestP21_2Junk(t *testing.T) {
	for _, list := range [][]byte{nil, {}} {
		printsAs(t, playOf(api.Op{Kind: api.OpJunk, Data: list}), head+"junk 0 \"\"\n", api.OK)
	}
	for c := range 256 {
		prints(t, playOf(api.Op{Kind: api.OpJunk, A: c, Data: []byte{byte(c)}}))
		prints(t, playOf(api.Op{Kind: api.OpJunk, A: -1, Data: []byte{byte(c), 0, ^byte(c)}}))
	}
	printsAs(t, playOf(api.Op{Kind: api.OpJunk, A: -1, Data: []byte{0xab, 1, 0xf0}}), head+"junk server ab01f0\n", api.OK)
	printsAs(t, playOf(api.Op{Kind: api.OpJunk, A: most, Data: []byte{0}}), head+"junk 1073741824 00\n", api.OK)
}

// TestP21_2Crash: the characters of Keep.
func TestP21_2Crash(t *testing.T) {
	for _, keep := range [][]bool{nil, {}} {
		printsAs(t, playOf(api.Op{Kind: api.OpCrash, Keep: keep}), head+"crash \"\"\n", api.OK)
	}
	for _, s := range texts([]string{"0", "1"}, 8)[1:] {
		var keep []bool
		for _, r := range s {
			keep = append(keep, r == '1')
		}
		printsAs(t, playOf(api.Op{Kind: api.OpCrash, Keep: keep}), head+"crash "+s+"\n", api.OK)
	}
}

// TestP21_3World: each of the world's numbers has its bounds, and is judged ahead of the steps.
func TestP21_3World(t *testing.T) {
	p := playOf()
	for i := range worldPlaces(&p) {
		for _, n := range edges() {
			want := api.OK
			if n < 0 || n > most {
				want = api.ErrNumber
			}
			q := playOf()
			*worldPlaces(&q)[i] = n
			prints(t, q)
			q.Ops = []api.Op{{Kind: api.OpBoot}}
			prints(t, q)
			_, code := play.Print(q)
			is(t, "the error", code, want)
			if want == api.OK {
				continue
			}
			q.Ops = make([]api.Op, 2001)
			printsAs(t, q, "", api.ErrNumber)
			q.Ops = []api.Op{{Kind: 15}}
			printsAs(t, q, "", api.ErrNumber)
			q.Ops = []api.Op{{Kind: api.OpBoot, K: 1}}
			printsAs(t, q, "", api.ErrNumber)
		}
	}
}

// TestP21_3TooManySteps: 2000 may be; of more none is looked at.
func TestP21_3TooManySteps(t *testing.T) {
	list := slices.Repeat([]api.Op{{Kind: api.OpLook}}, 2001)
	printsAs(t, playOf(list[:2000]...), head+strings.Repeat("look\n", 2000), api.OK)
	printsAs(t, playOf(list...), "", api.ErrMany)
	for _, o := range []api.Op{{}, {Kind: 15}, {Kind: api.OpLook, K: 1}, {Kind: api.OpTick, K: -1}, {Kind: api.OpCall}} {
		list[7] = o
		printsAs(t, playOf(list...), "", api.ErrMany)
		list[7] = api.Op{Kind: api.OpLook}
	}
	list[1999] = api.Op{Kind: 15}
	printsAs(t, playOf(list[:2000]...), "", api.ErrWord)
}

// TestP21_3Kinds: 1 to 14, whatever else the step has.
func TestP21_3Kinds(t *testing.T) {
	for _, n := range append(edges(), 2, 3, 13, 14, 15, 16, 269) {
		prints(t, playOf(api.Op{Kind: n}))
		if n < 1 || n > 14 {
			printsAs(t, playOf(api.Op{Kind: n}), "", api.ErrWord)
			printsAs(t, playOf(api.Op{Kind: n, A: -1, K: -1, Data: []byte{1}}), "", api.ErrWord)
			printsAs(t, playOf(api.Op{Kind: n, Call: api.Call{Op: 11}}), "", api.ErrWord)
		}
	}
	for _, n := range append(edges(), 2, 3, 11, 12, 266) {
		o := api.Op{Kind: api.OpCall, Call: api.Call{Op: n}}
		prints(t, playOf(o))
		if n < 1 || n > 10 {
			printsAs(t, playOf(o), "", api.ErrWord)
			o.A, o.Call.H = -1, -1
			printsAs(t, playOf(o), "", api.ErrWord)
			o.Call.Path = "x"
			printsAs(t, playOf(o), "", api.ErrWord)
		}
	}
}

// TestP21_3Spare: every field that a step does not have, one by one; the chapter's fields of a kind are those of its sample.
func TestP21_3Spare(t *testing.T) {
	for _, sample := range sampleSteps() {
		for i, place := range stepPlaces(&sample) {
			// All numbers that a sample has are above 0, but junk's A.
			own := *place != 0
			for _, n := range []int{1, -1, most, most + 1, math.MinInt, math.MaxInt} {
				o := sample
				*stepPlaces(&o)[i] = n
				prints(t, playOf(o))
				if !own {
					printsAs(t, playOf(o), "", api.ErrSpare)
				}
			}
		}
		for _, fill := range fills() {
			o := sample
			fill(&o)
			prints(t, playOf(o))
		}
	}
	for kind := 1; kind <= 14; kind++ {
		if kind != api.OpJunk {
			printsAs(t, playOf(api.Op{Kind: kind, Data: []byte{0}}), "", api.ErrSpare)
		}
		if kind != api.OpCrash {
			printsAs(t, playOf(api.Op{Kind: kind, Keep: []bool{false}}), "", api.ErrSpare)
		}
		if kind != api.OpCall {
			for _, c := range sampleSteps()[:10] {
				printsAs(t, playOf(api.Op{Kind: kind, Call: c.Call}), "", api.ErrSpare)
			}
			for _, fill := range fills()[2:] {
				o := api.Op{Kind: kind}
				fill(&o)
				printsAs(t, playOf(o), "", api.ErrSpare)
			}
		}
	}
}

// TestP21_3EmptyLists: nil and the empty list are the same, also where a list may not be; spare room is nothing.
func TestP21_3EmptyLists(t *testing.T) {
	lines := sampleLines()
	for i, o := range sampleSteps() {
		for _, room := range []int{0, 3} {
			if o.Kind != api.OpJunk {
				o.Data = slices.Repeat([]byte{7}, room)[:0]
			}
			if o.Kind != api.OpCrash {
				o.Keep = slices.Repeat([]bool{true}, room)[:0]
			}
			if o.Call.Op != api.Write {
				o.Call.Data = slices.Repeat([]byte{7}, room)[:0]
			}
			printsAs(t, playOf(o), head+lines[i]+"\n", api.OK)
		}
	}
}

// TestP21_3Order: of two faults the chapter's first one is told: of a step by their sort, of two steps by their order.
func TestP21_3Order(t *testing.T) {
	getattr := api.Call{Op: api.Getattr}
	for _, x := range []struct {
		o    api.Op
		code api.Errno
	}{
		{api.Op{Kind: 0, K: -1}, api.ErrWord},
		{api.Op{Kind: api.OpTick, K: -1, A: 1}, api.ErrSpare},
		{api.Op{Kind: api.OpTick, K: -1, Call: api.Call{Op: 11}}, api.ErrSpare},
		{api.Op{Kind: api.OpTick, K: -1}, api.ErrNumber},
		{api.Op{Kind: api.OpCall, A: -1, K: 1, Call: api.Call{Op: 11}}, api.ErrSpare},
		{api.Op{Kind: api.OpCall, A: -1, Call: api.Call{Op: 11, H: -1}}, api.ErrWord},
		{api.Op{Kind: api.OpCall, A: -1, Call: api.Call{Op: api.Getattr, H: -1, Len: 1}}, api.ErrSpare},
		{api.Op{Kind: api.OpCall, A: 1, Call: api.Call{Op: api.Getattr, H: -1}}, api.ErrNumber},
		{api.Op{Kind: api.OpCall, A: -1, Call: getattr}, api.ErrNumber},
		{api.Op{Kind: api.OpCall, A: most + 1, Call: getattr}, api.ErrNumber},
		{api.Op{Kind: api.OpJunk, A: -2, Keep: []bool{true}}, api.ErrSpare},
		{api.Op{Kind: api.OpJunk, A: -2}, api.ErrNumber},
		{api.Op{Kind: api.OpClose, A: -1, K: 1}, api.ErrNumber},
		{api.Op{Kind: api.OpClose, A: 1, K: -1}, api.ErrNumber},
	} {
		printsAs(t, playOf(x.o), "", x.code)
		for _, other := range []api.Op{{Kind: 15}, {Kind: api.OpBoot, A: 1}, {Kind: api.OpRun, K: -1}, {Kind: api.OpBoot}} {
			printsAs(t, playOf(x.o, other), "", x.code)
			printsAs(t, playOf(api.Op{Kind: api.OpLook}, x.o, other), "", x.code)
		}
	}
}

// TestP21_3TooLong: 2^20 bytes may be; one more is too many, wherever it stands.
func TestP21_3TooLong(t *testing.T) {
	const whole = 1 << 20
	room := whole - len(head)
	call := func(c api.Call) api.Op { return api.Op{Kind: api.OpCall, Call: c} }
	for _, x := range []struct {
		line string
		of   func(n int) api.Op
	}{
		{"crash ", func(n int) api.Op { return api.Op{Kind: api.OpCrash, Keep: make([]bool, n)} }},
		{"call 0 lookup ", func(n int) api.Op { return call(api.Call{Op: api.Lookup, Path: strings.Repeat("/", n)}) }},
		{"call 0 write 0 0 ", func(n int) api.Op { return call(api.Call{Op: api.Write, Data: []byte(strings.Repeat("d", n))}) }},
		{"call 0 create 0 ", func(n int) api.Op { return call(api.Call{Op: api.Create, Name: strings.Repeat("n", n)}) }},
		{"call 0 rename 0 a 0 ", func(n int) api.Op { return call(api.Call{Op: api.Rename, Name: "a", Name2: strings.Repeat("n", n)}) }},
	} {
		fits := room - len(x.line) - 1
		text, code := play.Print(playOf(x.of(fits)))
		is(t, "the error", code, api.OK)
		is(t, "the text's length", len(text), whole)
		prints(t, playOf(x.of(fits)))
		for _, n := range []int{fits + 1, whole + 1, 3 * whole} {
			printsAs(t, playOf(x.of(n)), "", api.ErrMany)
			printsAs(t, playOf(x.of(n), api.Op{Kind: api.OpBoot}), "", api.ErrMany)
		}
		printsAs(t, playOf(x.of(fits), api.Op{Kind: api.OpBoot}), "", api.ErrMany)
		prints(t, playOf(x.of(fits-5), api.Op{Kind: api.OpBoot}))
		prints(t, playOf(x.of(fits-4), api.Op{Kind: api.OpBoot}))
		prints(t, playOf(api.Op{Kind: api.OpBoot}, x.of(fits-5)))
		prints(t, playOf(api.Op{Kind: api.OpBoot}, x.of(fits-4)))
	}
	hexed := func(n int) api.Op { return api.Op{Kind: api.OpJunk, Data: make([]byte, n)} }
	fits := (room - len("junk 0 \n")) / 2
	prints(t, playOf(hexed(fits)))
	printsAs(t, playOf(hexed(fits+1)), "", api.ErrMany)
	printsAs(t, playOf(hexed(fits/2), hexed(fits/2)), "", api.ErrMany)
	quoted := func(n int) api.Op { return call(api.Call{Op: api.Lookup, Path: strings.Repeat("\x00", n)}) }
	fits = (room - len("call 0 lookup \"\"\n")) / 4
	prints(t, playOf(quoted(fits)))
	printsAs(t, playOf(quoted(fits+1)), "", api.ErrMany)
}

// TestP21_3TooLongLast: that a text would be too long is told behind each other fault, of whatever step, also where one call alone is too long.
func TestP21_3TooLongLast(t *testing.T) {
	long := strings.Repeat("x", 1<<20+1)
	call := api.Op{Kind: api.OpCall, Call: api.Call{Op: api.Lookup, Path: long}}
	printsAs(t, playOf(call), "", api.ErrMany)
	for _, o := range []api.Op{call, {Kind: api.OpJunk, Data: []byte(long)}, {Kind: api.OpCrash, Keep: make([]bool, len(long))}} {
		printsAs(t, playOf(o, api.Op{Kind: 15}), "", api.ErrWord)
		printsAs(t, playOf(o, api.Op{Kind: api.OpBoot, X: 1}), "", api.ErrSpare)
		printsAs(t, playOf(o, api.Op{Kind: api.OpCopy, K: -1}), "", api.ErrNumber)
		printsAs(t, playOf(o, api.Op{Kind: api.OpCall, Call: api.Call{Op: api.Getattr, Path: long}}), "", api.ErrSpare)
		o.A = -2
		want := api.ErrNumber
		if o.Kind == api.OpCrash {
			want = api.ErrSpare
		}
		printsAs(t, playOf(o), "", want)
	}
	call.Call.H = 1
	printsAs(t, playOf(call), "", api.ErrSpare)
}

// TestP21_3MuchTooLong: 2000 steps, each of them too long by far.
func TestP21_3MuchTooLong(t *testing.T) {
	long := make([]byte, 1<<24)
	for _, o := range []api.Op{{Kind: api.OpJunk, Data: long}, {Kind: api.OpCall, Call: api.Call{Op: api.Write, Data: long}}, {Kind: api.OpCrash, Keep: make([]bool, 1<<24)}} {
		text, code := play.Print(playOf(slices.Repeat([]api.Op{o}, 2000)...))
		is(t, "the text", text, "")
		is(t, "the error", code, api.ErrMany)
	}
}
