package world_test

import (
	"bytes"
	"fmt"
	"math"
	"slices"
	"strings"
	"testing"

	"annex/api"
	"annex/client"
	"annex/device"
	"annex/play"
	"annex/server"
	"annex/world"
)

var (
	example = api.Shape{Clients: 1, Window: 1, Places: 1, Cache: 4, Inodes: 8, Quota: 4096, Data: 48, Journal: 40} // the chapter's
	usual   = api.Params{Min: 2, First: 8, Max: 64}
	pairOf  = api.Shape{Clients: 2, Window: 2, Places: 2, Cache: 4, Inodes: 6, Quota: 3000, Data: 30, Journal: 27}
	narrow  = api.Shape{Clients: 3, Window: 4, Places: 1, Cache: 2, Inodes: 4, Quota: 600, Data: 18, Journal: 27} // clients hear BUSY
	crowd   = api.Shape{Clients: 8, Window: 8, Places: 8, Cache: 64, Inodes: 16, Quota: 8192, Data: 80, Journal: 60}
)

func shapes() []api.Shape { return []api.Shape{example, pairOf, narrow, crowd} }

// told is a second telling of the chapter: what is under way stands in a plain row, and each step is done as its line in the chapter says.
type told struct {
	shape   api.Shape
	d       *device.Device
	v       *server.Server
	up      bool // no crash and no error has come since v was opened
	clients []*client.Client
	row     []api.Flight
	given   int // numbers
	now     int
	events  []api.Event
}

func tellNew(s api.Shape, p api.Params) *told {
	image, code := server.Format(s)
	if code != api.OK || client.New(0, 1, p) == nil {
		return nil
	}
	w := &told{shape: s}
	w.d, _ = device.Image(image)
	w.v, code = server.Open(w.d)
	w.up = code == api.OK
	for id := 0; id < s.Clients; id++ {
		w.clients = append(w.clients, client.New(id, s.Window, p))
	}
	return w
}

// step is P22.2.
func (w *told) step(o api.Op) []api.Event {
	w.events = nil
	code := w.do(o)
	if code == api.OK {
		return w.events
	}
	refused := api.Event{Kind: 1, Code: code}
	if slices.Contains([]int{1, 2, 9}, o.Kind) {
		refused.A = o.A
	}
	if slices.Contains([]int{2, 3, 4, 5, 6, 7, 8, 10, 13}, o.Kind) {
		refused.K = o.K
	}
	return []api.Event{refused}
}

func (w *told) event(e api.Event) { w.events = append(w.events, e) }

// lay is P22.3.
func (w *told) lay(by, to int, data []byte) {
	no := 0
	if len(w.row) < 4096 {
		w.given++
		no = w.given
		w.row = append(w.row, api.Flight{No: no, To: to, Data: bytes.Clone(data)})
	}
	w.event(api.Event{Kind: 3, A: by, K: no})
}

func (w *told) gather(c int) {
	for _, b := range w.clients[c].Take() {
		w.lay(c, -1, b)
	}
	for _, r := range w.clients[c].Results() {
		w.event(api.Event{Kind: 5, A: c, Result: r})
	}
}

func (w *told) place(no int) int {
	return slices.IndexFunc(w.row, func(f api.Flight) bool { return f.No == no })
}

// do is P22.4, a line of it behind the other.
func (w *told) do(o api.Op) api.Errno {
	isClient := 0 <= o.A && o.A <= w.shape.Clients-1
	at := w.place(o.K)
	switch o.Kind {
	case 1, 2:
		if !isClient {
			return 1
		}
		return w.asks(o)
	case 3, 4, 13:
		if most := map[int]int{3: 1000, 4: 1000, 13: 100}[o.Kind]; o.K < 1 || o.K > most {
			return 1
		}
		return w.often(o)
	case 5, 6, 7, 8:
		if at < 0 {
			return 201
		}
		return w.hand(o, at)
	case 9:
		if !isClient && o.A != -1 {
			return 1
		}
		w.lay(-2, o.A, o.Data)
	case 10:
		return w.d.Arm(o.K)
	case 11:
		pending, many := w.d.Pending(), 0
		for i := range pending {
			if i < len(o.Keep) && o.Keep[i] {
				many++
			}
		}
		w.d.Crash(o.Keep)
		w.up = false
		w.event(api.Event{Kind: 7, K: len(pending), M: many})
	case 12:
		return w.boot()
	case 14:
		w.look()
	default:
		return 222
	}
	return 0
}

// asks are the steps that ask a client.
func (w *told) asks(o api.Op) api.Errno {
	if o.Kind == 2 {
		return w.clients[o.A].Close(o.K)
	}
	no, code := w.clients[o.A].Start(w.now, o.Call)
	if code != 0 {
		return code
	}
	o.Call.Data = bytes.Clone(o.Call.Data)
	w.event(api.Event{Kind: 2, A: o.A, K: no, Call: o.Call})
	w.gather(o.A)
	return 0
}

// often are the steps that do the same again and again.
func (w *told) often(o api.Op) api.Errno {
	if o.Kind == 4 {
		return w.serve(o.K)
	}
	for range o.K {
		if o.Kind == 13 {
			w.round()
			continue
		}
		w.now++
		for c := range w.clients {
			w.clients[c].Tick(w.now)
			w.gather(c)
		}
	}
	return 0
}

func (w *told) serve(k int) api.Errno {
	if !w.up {
		return 154
	}
	for n := range k {
		list, code := w.v.Step()
		if code != 0 {
			w.up = false
			w.event(api.Event{Kind: 4, K: n})
			w.event(api.Event{Kind: 7, Code: code, K: len(w.d.Pending())})
			return 0
		}
		for _, p := range list {
			w.lay(-1, p.To, p.Data)
		}
	}
	w.event(api.Event{Kind: 4, K: k})
	return 0
}

func (w *told) round() {
	w.do(api.Op{Kind: 3, K: 1})
	for _, f := range slices.Clone(w.row) {
		w.do(api.Op{Kind: 5, K: f.No})
	}
	if w.up {
		w.do(api.Op{Kind: 4, K: w.shape.Clients * w.shape.Places})
	}
	for _, f := range slices.Clone(w.row) {
		w.do(api.Op{Kind: 5, K: f.No})
	}
}

// hand are the steps of the hand that has the datagrams under way.
func (w *told) hand(o api.Op, at int) api.Errno {
	f := w.row[at]
	switch o.Kind {
	case 7:
		w.lay(-2, f.To, f.Data)
		return 0
	case 8:
		if o.M < 0 || o.M >= len(f.Data) {
			return 202
		}
		if o.X < 1 || o.X > 255 {
			return 203
		}
		f.Data[o.M] ^= byte(o.X)
		return 0
	}
	w.row = slices.Delete(w.row, at, at+1)
	switch {
	case o.Kind == 6:
	case f.To >= 0:
		w.clients[f.To].Receive(w.now, f.Data)
		w.gather(f.To)
	case w.up:
		for _, p := range w.v.Receive(f.Data) {
			w.lay(-1, p.To, p.Data)
		}
	}
	return 0
}

func (w *told) boot() api.Errno {
	if w.up {
		return 221
	}
	v, code := server.Open(w.d)
	if code != 0 {
		return code
	}
	w.v, w.up = v, true
	w.event(api.Event{Kind: 8, K: v.Epoch()})
	return 0
}

func (w *told) look() {
	if !w.up {
		w.event(api.Event{Kind: 9})
	} else {
		all := 0
		for _, n := range w.v.Waits() {
			all += n
		}
		size, inodes := w.v.Usage()
		w.event(api.Event{Kind: 9, A: 1, K: w.v.Epoch(), M: all})
		w.event(api.Event{Kind: 11, A: -1, K: size, M: inodes})
		for c := range w.clients {
			w.event(api.Event{Kind: 11, A: c, K: w.v.Marks()[c], M: w.v.Waits()[c]})
		}
		for _, k := range w.v.Kept() {
			w.event(api.Event{Kind: 10, Kept: k})
		}
	}
	for c, one := range w.clients {
		for _, h := range one.Handles() {
			w.event(api.Event{Kind: 6, A: c, Handle: h})
		}
	}
	for _, f := range w.row {
		f.Data = bytes.Clone(f.Data)
		w.event(api.Event{Kind: 12, Flight: f})
	}
}

// tellShow is P22.6.
func tellShow(e api.Event) string {
	hex := func(b []byte) string {
		if len(b) == 0 {
			return `""`
		}
		return fmt.Sprintf("%x", b)
	}
	switch e.Kind {
	case 1:
		return fmt.Sprintf("refused %d %d %d", e.A, e.K, int(e.Code))
	case 2:
		call, code := play.PrintCall(e.Call)
		if code != 0 {
			call = "?"
		}
		return fmt.Sprintf("started %d %d %s", e.A, e.K, call)
	case 3:
		return fmt.Sprintf("sent %d %d", e.A, e.K)
	case 4:
		return fmt.Sprintf("served %d", e.K)
	case 5:
		r, a := e.Result, e.Result.Attr
		line := []string{fmt.Sprintf("returned %d %d %d %d %d %d %d %d %d", e.A, r.Call, r.Op, int(r.Status), r.Handle, a.Id, a.Kind, a.Size, a.Change)}
		line = append(line, map[bool]string{false: "0", true: "1"}[r.More], play.Text(string(r.Data)))
		for _, x := range r.List {
			line = append(line, fmt.Sprintf("%s %d %d", play.Text(x.Name), x.Id, x.Kind))
		}
		return strings.Join(line, " ")
	case 6:
		return fmt.Sprintf("handle %d %d %d %d %s", e.A, e.Handle.No, e.Handle.Id, e.Handle.Epoch, play.Text(e.Handle.Path))
	case 7:
		return fmt.Sprintf("down %d %d %d", int(e.Code), e.K, e.M)
	case 8:
		return fmt.Sprintf("up %d", e.K)
	case 9:
		return fmt.Sprintf("server %d %d %d", e.A, e.K, e.M)
	case 10:
		return fmt.Sprintf("kept %d %d %d %s", e.Kept.Client, e.Kept.Seq, e.Kept.Stamp, hex(e.Kept.Data))
	case 11:
		return fmt.Sprintf("mark %d %d %d", e.A, e.K, e.M)
	case 12:
		return fmt.Sprintf("flight %d %d %s", e.Flight.No, e.Flight.To, hex(e.Flight.Data))
	}
	return ""
}

// tellRun is P22.7.
func tellRun(text string) (string, int, api.Errno) {
	p, line, code := play.Parse(text)
	if code != 0 {
		return "", line, code
	}
	w := tellNew(p.Shape, p.Params)
	if w == nil {
		return "", 0, 2
	}
	var all []string
	for i, o := range p.Ops {
		for _, e := range w.step(o) {
			all = append(all, fmt.Sprintf("%d %s\n", i+1, tellShow(e)))
		}
	}
	return strings.Join(all, ""), 0, 0
}

// same tells whether two events have the same in all, whatever their kind; nil and the empty list are the same.
func same(a, b api.Event) bool {
	if a.Kind != b.Kind || a.A != b.A || a.K != b.K || a.M != b.M || a.Code != b.Code || a.Handle != b.Handle {
		return false
	}
	c, d := a.Call, b.Call
	if c.Op != d.Op || c.H != d.H || c.H2 != d.H2 || c.Off != d.Off || c.Len != d.Len || c.Path != d.Path || c.Name != d.Name || c.Name2 != d.Name2 || !bytes.Equal(c.Data, d.Data) {
		return false
	}
	r, s := a.Result, b.Result
	if r.Call != s.Call || r.Op != s.Op || r.Status != s.Status || r.Handle != s.Handle || r.Attr != s.Attr || r.More != s.More || !bytes.Equal(r.Data, s.Data) || !slices.Equal(r.List, s.List) {
		return false
	}
	k, l := a.Kept, b.Kept
	f, g := a.Flight, b.Flight
	return k.Client == l.Client && k.Seq == l.Seq && k.Stamp == l.Stamp && bytes.Equal(k.Data, l.Data) && f.No == g.No && f.To == g.To && bytes.Equal(f.Data, g.Data)
}

// whole is all that an event has, for what is kept for later.
func whole(e api.Event) string {
	return fmt.Sprintf("%d %d %d %d %d %+v %+v %+v %+v %+v", e.Kind, e.A, e.K, e.M, int(e.Code), e.Call, e.Result, e.Handle, e.Kept, e.Flight)
}

func wholes(list []api.Event) string {
	var all []string
	for _, e := range list {
		all = append(all, whole(e))
	}
	return strings.Join(all, "\n")
}

// shown are the events' lines.
func shown(list []api.Event) string {
	var all []string
	for _, e := range list {
		all = append(all, world.Show(e))
	}
	return strings.Join(all, "\n")
}

// ground is a world and the second telling of it.
type ground struct {
	t    *testing.T
	w    *world.World
	told *told
	done []api.Op
}

func groundOf(t *testing.T, s api.Shape, p api.Params) *ground {
	t.Helper()
	return &ground{t: t, w: worldOf(t, s, p), told: tellNew(s, p)}
}

func worldOf(t *testing.T, s api.Shape, p api.Params) *world.World {
	t.Helper()
	w := world.New(s, p)
	if w == nil {
		t.Fatalf("no world of %+v, %+v", s, p)
	}
	return w
}

// step does a step in both.
func (g *ground) step(o api.Op) []api.Event {
	g.t.Helper()
	g.done = append(g.done, o)
	got, want := g.w.Step(o), g.told.step(o)
	if !slices.EqualFunc(got, want, same) {
		g.t.Fatalf("step %d, %+v:\n%s\nwant\n%s", len(g.done), o, shown(got), shown(want))
	}
	return got
}

// refuses is a step that can't be done; it changes nothing.
func (g *ground) refuses(o api.Op, a, k int, code api.Errno) {
	g.t.Helper()
	before := g.picture()
	list := g.step(o)
	want := api.Event{Kind: api.EvRefused, A: a, K: k, Code: code}
	if len(list) != 1 || !same(list[0], want) {
		g.t.Fatalf("%+v:\n%s\nwant refused %d %d %d", o, shown(list), a, k, code)
	}
	if after := g.picture(); after != before {
		g.t.Fatalf("%+v was refused, and\n%s\nbecame\n%s", o, before, after)
	}
}

// picture is all that can be seen of a world without changing it.
func (g *ground) picture() string {
	return fmt.Sprintf("%s\n%d\n%x\n%+v", wholes(g.w.Step(api.Op{Kind: api.OpLook})), g.w.Now(), g.w.Durable(), g.w.Under())
}

// holds asks for what P22.5 tells.
func (g *ground) holds() {
	g.t.Helper()
	is(g.t, "Now", g.w.Now(), g.told.now)
	is(g.t, "Durable", bytes.Equal(g.w.Durable(), g.told.d.Durable()), true)
	sameFlights(g.t, g.w.Under(), g.told.row)
}

func sameFlights(t *testing.T, got, want []api.Flight) {
	t.Helper()
	if !slices.EqualFunc(got, want, func(a, b api.Flight) bool { return a.No == b.No && a.To == b.To && bytes.Equal(a.Data, b.Data) }) {
		t.Fatalf("Under: %+v, want %+v", got, want)
	}
}

// does does the steps of a play's lines, none of which is refused, and tells the history without the steps' numbers.
func (g *ground) does(lines string) string {
	g.t.Helper()
	var all []api.Event
	for _, o := range opsOf(g.t, lines) {
		list := g.step(o)
		if len(list) > 0 && list[0].Kind == api.EvRefused {
			g.t.Fatalf("%+v: %s", o, shown(list))
		}
		all = append(all, list...)
	}
	g.holds()
	return shown(all)
}

// opsOf are the steps of a play's lines; a ; ends a line too.
func opsOf(t *testing.T, lines string) []api.Op {
	t.Helper()
	p, line, code := play.Parse("world 1 1 1 4 8 4096 48 40 2 8 64\n" + strings.ReplaceAll(lines, ";", "\n"))
	if code != api.OK {
		t.Fatalf("%q: line %d, error %d", lines, line, code)
	}
	return p.Ops
}

// tells asks that lines give a history; a ; ends a line there too.
func (g *ground) tells(lines, want string) {
	g.t.Helper()
	if got := strings.ReplaceAll(g.does(lines), "\n", ";"); got != want {
		g.t.Fatalf("%s:\n%s\nwant\n%s", lines, got, want)
	}
}

// edges are ints at the ends of what an int is, and at the ends of what steps take.
func edges() []int {
	return []int{math.MinInt, math.MinInt + 1, -1 << 32, -1001, -101, -2, -1, 0, 1, 2, 3, 99, 100, 101, 999, 1000, 1001,
		math.MaxInt32, 1 << 32, 1<<32 + 1, math.MaxInt - 1, math.MaxInt}
}

func is[T comparable](t *testing.T, what string, got, want T) {
	t.Helper()
	if got != want {
		t.Fatalf("%s: %v, want %v", what, got, want)
	}
}
