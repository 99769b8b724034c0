package world_test

import (
	"bytes"
	"fmt"
	"math"
	"math/rand"
	"strings"
	"testing"

	"annex/api"
	"annex/world"
)

// full is an event in which every field is set, so that what a kind does not have would be seen.
func full(kind int) api.Event {
	return api.Event{
		Kind: kind, A: 11, K: 12, M: 13, Code: 14,
		Call: api.Call{Op: api.Write, H: 21, Off: 22, Data: []byte("data")},
		Result: api.Result{
			Call: 31, Op: 32, Status: 33, Handle: 34, Attr: api.Attr{Id: 35, Kind: 36, Size: 37, Change: 38},
			Data: []byte("a b"), List: []api.Entry{{Name: "x", Id: 41, Kind: 42}, {Name: "", Id: 43, Kind: 44}}, More: true,
		},
		Handle: api.Handle{No: 51, Id: 52, Epoch: 53, Path: "/p q"},
		Kept:   api.Kept{Client: 61, Seq: 62, Stamp: 63, Data: []byte{0, 0x6a, 0xff}},
		Flight: api.Flight{No: 71, To: 72, Data: []byte{0x0f, 0xf0}},
	}
}

// TestP22_6Kinds: each kind's line has its own fields, in their order, and no others.
func TestP22_6Kinds(t *testing.T) {
	for kind, want := range map[int]string{
		api.EvRefused:  `refused 11 12 14`,
		api.EvStarted:  `started 11 12 write 21 22 data`,
		api.EvSent:     `sent 11 12`,
		api.EvServed:   `served 12`,
		api.EvReturned: `returned 11 31 32 33 34 35 36 37 38 1 "a b" x 41 42 "" 43 44`,
		api.EvHandle:   `handle 11 51 52 53 "/p q"`,
		api.EvDown:     `down 14 12 13`,
		api.EvUp:       `up 12`,
		api.EvServer:   `server 11 12 13`,
		api.EvKept:     `kept 61 62 63 006aff`,
		api.EvMark:     `mark 11 12 13`,
		api.EvFlight:   `flight 71 72 0ff0`,
	} {
		is(t, "Show", world.Show(full(kind)), want)
		is(t, "Show as it is told", world.Show(full(kind)), tellShow(full(kind)))
	}
}

// TestP22_6Zeros: each kind's line of an event in which nothing is set.
func TestP22_6Zeros(t *testing.T) {
	for kind, want := range []string{
		"", "refused 0 0 0", "started 0 0 ?", "sent 0 0", "served 0", `returned 0 0 0 0 0 0 0 0 0 0 ""`, `handle 0 0 0 0 ""`,
		"down 0 0 0", "up 0", "server 0 0 0", `kept 0 0 0 ""`, "mark 0 0 0", `flight 0 0 ""`, "",
	} {
		is(t, "Show", world.Show(api.Event{Kind: kind}), want)
	}
}

// TestP22_6NoKind: any other kind is the empty text, whatever else the event has.
func TestP22_6NoKind(t *testing.T) {
	for _, kind := range []int{math.MinInt, -12, -1, 0, 13, 14, 255, 256, 257, 1 << 32, 1<<32 + 1, math.MaxInt} {
		is(t, "Show", world.Show(full(kind)), "")
	}
}

// TestP22_6Numbers: decimal ones, at the ends of what an int is too.
func TestP22_6Numbers(t *testing.T) {
	for _, n := range []int{math.MinInt, -1, 0, 9, 10, 1 << 40, math.MaxInt} {
		for kind := 1; kind <= 12; kind++ {
			e := api.Event{
				Kind: kind, A: n, K: n, M: n, Code: api.Errno(n),
				Result: api.Result{Call: n, Op: n, Status: api.Errno(n), Handle: n, Attr: api.Attr{Id: n, Kind: n, Size: n, Change: n}, List: []api.Entry{{Id: n, Kind: n}}},
				Handle: api.Handle{No: n, Id: n, Epoch: n}, Kept: api.Kept{Client: n, Seq: n, Stamp: n}, Flight: api.Flight{No: n, To: n},
			}
			is(t, "Show", world.Show(e), tellShow(e))
			is(t, "whether the number is there", strings.Contains(world.Show(e), fmt.Sprint(n)), true)
		}
	}
}

// TestP22_6Hex: two small digits a byte, each byte; none is an empty word.
func TestP22_6Hex(t *testing.T) {
	var all []byte
	want := ""
	for b := range 256 {
		all = append(all, byte(b))
		want += fmt.Sprintf("%02x", b)
		is(t, "kept", world.Show(api.Event{Kind: api.EvKept, Kept: api.Kept{Data: all[b:]}}), fmt.Sprintf("kept 0 0 0 %02x", b))
		is(t, "flight", world.Show(api.Event{Kind: api.EvFlight, Flight: api.Flight{Data: all[b:]}}), fmt.Sprintf("flight 0 0 %02x", b))
	}
	is(t, "kept", world.Show(api.Event{Kind: api.EvKept, Kept: api.Kept{Data: all}}), "kept 0 0 0 "+want)
	for _, none := range [][]byte{nil, {}} {
		is(t, "kept", world.Show(api.Event{Kind: api.EvKept, Kept: api.Kept{Data: none}}), `kept 0 0 0 ""`)
		is(t, "flight", world.Show(api.Event{Kind: api.EvFlight, Flight: api.Flight{Data: none}}), `flight 0 0 ""`)
	}
}

// TestP22_6Texts: bare, quoted and escaped, wherever a text stands.
func TestP22_6Texts(t *testing.T) {
	for text, word := range map[string]string{
		"": `""`, "a": "a", "/a/b": "/a/b", "_.-/": "_.-/", "a b": `"a b"`, `"`: `"\""`, `\`: `"\\"`, "\n": `"\x0a"`, "\x00\xff": `"\x00\xff"`, "é": `"\xc3\xa9"`, "#": `"#"`, "0": "0",
	} {
		is(t, "a path", world.Show(api.Event{Kind: api.EvHandle, Handle: api.Handle{Path: text}}), "handle 0 0 0 0 "+word)
		is(t, "data", world.Show(api.Event{Kind: api.EvReturned, Result: api.Result{Data: []byte(text)}}), "returned 0 0 0 0 0 0 0 0 0 0 "+word)
		list := []api.Entry{{Name: text, Id: 1, Kind: 2}, {Name: "b", Id: 3, Kind: 1}, {Name: text}}
		is(t, "names", world.Show(api.Event{Kind: api.EvReturned, Result: api.Result{List: list}}), `returned 0 0 0 0 0 0 0 0 0 0 "" `+word+" 1 2 b 3 1 "+word+" 0 0")
		call := api.Call{Op: api.Rename, H: 1, Name: text, H2: 2, Name2: text}
		is(t, "a call", world.Show(api.Event{Kind: api.EvStarted, Call: call}), "started 0 0 rename 1 "+word+" 2 "+word)
	}
}

// TestP22_6Calls: each operation's call, and those that can't be written.
func TestP22_6Calls(t *testing.T) {
	for want, call := range map[string]api.Call{
		"lookup /a":         {Op: api.Lookup, Path: "/a"},
		"getattr 3":         {Op: api.Getattr, H: 3},
		"read 3 4 5":        {Op: api.Read, H: 3, Off: 4, Len: 5},
		"write 3 4 \"a b\"": {Op: api.Write, H: 3, Off: 4, Data: []byte("a b")},
		"create 3 n":        {Op: api.Create, H: 3, Name: "n"},
		"remove 3 n":        {Op: api.Remove, H: 3, Name: "n"},
		"mkdir 3 n":         {Op: api.Mkdir, H: 3, Name: "n"},
		"rmdir 3 n":         {Op: api.Rmdir, H: 3, Name: "n"},
		"rename 3 n 4 m":    {Op: api.Rename, H: 3, Name: "n", H2: 4, Name2: "m"},
		"readdir 3 n 16":    {Op: api.Readdir, H: 3, Name: "n", Len: 16},
	} {
		is(t, "Show", world.Show(api.Event{Kind: api.EvStarted, A: 1, K: 2, Call: call}), "started 1 2 "+want)
	}
	for _, call := range []api.Call{
		{}, {Op: -1}, {Op: 11}, {Op: api.Getattr, H: -1}, {Op: api.Getattr, H: 1 << 31}, {Op: api.Getattr, Name: "spare"}, {Op: api.Lookup, Path: strings.Repeat("a", api.MaxText)},
	} {
		is(t, "Show", world.Show(api.Event{Kind: api.EvStarted, A: 1, K: 2, Call: call}), "started 1 2 ?")
	}
}

// TestP22_6More: 0 or 1, ahead of the data.
func TestP22_6More(t *testing.T) {
	is(t, "Show", world.Show(api.Event{Kind: api.EvReturned, Result: api.Result{Data: []byte("d")}}), "returned 0 0 0 0 0 0 0 0 0 0 d")
	is(t, "Show", world.Show(api.Event{Kind: api.EvReturned, Result: api.Result{Data: []byte("d"), More: true}}), "returned 0 0 0 0 0 0 0 0 0 1 d")
}

// TestP22_6Long: data, lists and datagrams of any length.
func TestP22_6Long(t *testing.T) {
	data := bytes.Repeat([]byte("abc\x00"), 100000)
	list := make([]api.Entry, 100000)
	for i := range list {
		list[i] = api.Entry{Name: "n", Id: i, Kind: i % 3}
	}
	for kind := range 14 {
		e := api.Event{Kind: kind, Kept: api.Kept{Data: data}, Flight: api.Flight{Data: data}, Result: api.Result{Data: data, List: list}, Handle: api.Handle{Path: string(data)}}
		is(t, "Show", world.Show(e) == tellShow(e), true)
	}
}

// TestP22_6ByChance: events of all kinds, with fields by chance.
func TestP22_6ByChance(t *testing.T) {
	r := rand.New(rand.NewSource(6))
	some := func() []byte {
		b := make([]byte, r.Intn(5))
		for i := range b {
			b[i] = []byte("ab/.-_ \"\\\x00\x1f\x7f\xff09")[r.Intn(15)]
		}
		return b
	}
	for range 30000 {
		var list []api.Entry
		for range r.Intn(4) {
			list = append(list, api.Entry{Name: string(some()), Id: r.Intn(999), Kind: r.Intn(3)})
		}
		e := api.Event{
			Kind: r.Intn(15) - 1, A: r.Intn(9) - 2, K: r.Intn(2000) - 5, M: r.Intn(99), Code: api.Errno(r.Intn(300) - 10),
			Call:   api.Call{Op: r.Intn(12), H: r.Intn(3), Path: string(some()), Data: some()},
			Result: api.Result{Call: r.Intn(99), Op: r.Intn(12), Status: api.Errno(r.Intn(200)), Handle: r.Intn(64), Attr: api.Attr{Id: r.Intn(999), Kind: r.Intn(3), Size: r.Intn(999), Change: r.Intn(99)}, Data: some(), List: list, More: r.Intn(2) == 0},
			Handle: api.Handle{No: r.Intn(64), Id: r.Intn(999), Epoch: r.Intn(9), Path: string(some())},
			Kept:   api.Kept{Client: r.Intn(8), Seq: r.Intn(99), Stamp: r.Intn(99), Data: some()},
			Flight: api.Flight{No: r.Intn(99), To: r.Intn(9) - 1, Data: some()},
		}
		is(t, "Show", world.Show(e), tellShow(e))
	}
}
