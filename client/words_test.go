package client_test

import (
	"bytes"
	"math"
	"math/rand"
	"slices"
	"strings"
	"testing"

	"annex/api"
	"annex/client"
	"annex/msg"
	"annex/names"
	"annex/rtx"
)

// usual are the params of the chapter's examples.
var usual = api.Params{Min: 2, First: 8, Max: 64}

// told is a second telling of the chapter over a transport of its own: every call that was ever begun and every record that was ever made stay in plain lists, and are known by their places there.
type told struct {
	x       *rtx.Rtx
	id      int
	window  int
	now     int
	records []api.Handle // No says nothing here
	table   map[int]int  // from a number to the place of a record
	calls   []*toldCall  // the call n at the place n - 1
	row     []int        // numbers of calls
	results []api.Result
	sent    map[int]api.Request // all that were sent, by seq
}

type toldCall struct {
	call    api.Call
	records []int // places
	wires   []int
	looked  int // the place of the record that is looked up again; -1: the operation was sent
	over    bool
}

func (w *told) time(now int) {
	if now > w.now {
		w.now = now
	}
	if w.now > 1<<62 {
		w.now = 1 << 62
	}
}

// judge is the chapter's list of refusals, one behind the other.
func (w *told) judge(k api.Call) api.Errno {
	if k.Op < 1 || k.Op > 10 {
		return api.ErrArg
	}
	_, h := w.table[k.H]
	_, h2 := w.table[k.H2]
	if k.Op != api.Lookup && !h || k.Op == api.Rename && !h2 {
		return api.ErrHandle
	}
	if code := textsOf(k); code != api.OK {
		return code
	}
	if illFields(k) {
		return api.ErrArg
	}
	if k.Op == api.Create || k.Op == api.Mkdir {
		if _, code := names.Add(w.records[w.table[k.H]].Path, k.Name); code != api.OK {
			return code
		}
	}
	if len(w.flying()) >= w.window {
		return api.ErrWindowFull
	}
	return api.OK
}

func textsOf(k api.Call) api.Errno {
	switch k.Op {
	case api.Lookup:
		_, code := names.Split(k.Path)
		return code
	case api.Create, api.Remove, api.Mkdir, api.Rmdir:
		return names.Check(k.Name)
	case api.Rename:
		if code := names.Check(k.Name); code != api.OK {
			return code
		}
		return names.Check(k.Name2)
	case api.Readdir:
		if k.Name != "" {
			return names.Check(k.Name)
		}
	}
	return api.OK
}

// illFields takes away what the call has, if it may be; then nothing may be left.
func illFields(k api.Call) bool {
	switch op := k.Op; op {
	case api.Lookup:
		k.Path = ""
	case api.Read, api.Write:
		if k.Off < 0 || k.Off > 69632 {
			return true
		}
		if op == api.Read && (k.Len < 1 || k.Len > 1024) || op == api.Write && (len(k.Data) < 1 || len(k.Data) > 1024) {
			return true
		}
		k.Off = 0
		if op == api.Read {
			k.Len = 0
		} else {
			k.Data = nil
		}
	case api.Create, api.Remove, api.Mkdir, api.Rmdir:
		k.Name = ""
	case api.Rename:
		k.Name, k.Name2, k.H2 = "", "", 0
	case api.Readdir:
		if k.Len < 1 || k.Len > 16 {
			return true
		}
		k.Name, k.Len = "", 0
	}
	if k.Op != api.Lookup {
		k.H = 0
	}
	return k.H != 0 || k.H2 != 0 || k.Off != 0 || k.Len != 0 || k.Path+k.Name+k.Name2 != "" || len(k.Data) != 0
}

func (w *told) start(now int, k api.Call) (int, api.Errno) {
	w.time(now)
	if code := w.judge(k); code != api.OK {
		return 0, code
	}
	k.Data = bytes.Clone(k.Data)
	f := &toldCall{call: k, looked: -1}
	if k.Op != api.Lookup {
		f.records = append(f.records, w.table[k.H])
	}
	if k.Op == api.Rename {
		f.records = append(f.records, w.table[k.H2])
	}
	w.calls = append(w.calls, f)
	w.row = append(w.row, len(w.calls))
	w.moveOn()
	return len(w.calls), api.OK
}

func (w *told) moveOn() {
	for len(w.row) > 0 {
		f := w.calls[w.row[0]-1]
		k := f.call
		r := api.Request{Epoch: w.x.Epoch(), Op: k.Op, Off: k.Off, Len: k.Len, Path: k.Path, Name: k.Name, Name2: k.Name2, Data: k.Data}
		looked := -1
		for i, at := range f.records {
			if looked < 0 && w.records[at].Epoch < w.x.Epoch() {
				looked = at
			}
			if i == 0 {
				r.Id = w.records[at].Id
			} else {
				r.Id2 = w.records[at].Id
			}
		}
		if looked >= 0 {
			r = api.Request{Epoch: w.x.Epoch(), Op: api.Lookup, Path: w.records[looked].Path}
		}
		seq, code := w.x.Send(w.now, r)
		if code != api.OK { // another error than ErrWindow no story comes to
			return
		}
		f.looked, f.wires, w.row = looked, append(f.wires, seq), w.row[1:]
		r.Client, r.Seq = w.id, seq
		w.sent[seq] = r
	}
}

func (w *told) receive(now int, b []byte) bool {
	w.time(now)
	p, ok := w.x.Receive(w.now, b)
	if !ok {
		return false
	}
	for i, f := range w.calls {
		if !f.over && slices.Contains(f.wires, p.Seq) {
			w.answered(i+1, f, p)
		}
	}
	w.moveOn()
	return true
}

func (w *told) answered(n int, f *toldCall, p api.Reply) {
	r := api.Result{Call: n, Op: f.call.Op, Status: p.Status}
	switch {
	case f.looked >= 0:
		record := &w.records[f.looked]
		if p.Status == api.OK && p.Attr.Id == record.Id {
			if p.Epoch > record.Epoch {
				record.Epoch = p.Epoch
			}
			w.row = append(w.row, n)
			return
		}
		r.Status = api.ErrStale
	case p.Status == api.ErrEpoch:
		w.row = append(w.row, n)
		return
	case p.Status == api.OK:
		r.Attr, r.Data, r.List, r.More = p.Attr, p.Data, p.List, p.More
		w.handle(f, p, &r)
	}
	f.over = true
	w.results = append(w.results, r)
}

func (w *told) handle(f *toldCall, p api.Reply, r *api.Result) {
	path := f.call.Path
	switch f.call.Op {
	case api.Lookup:
	case api.Create, api.Mkdir:
		path, _ = names.Add(w.records[f.records[0]].Path, f.call.Name)
	default:
		return
	}
	for no := range 64 {
		if _, taken := w.table[no]; !taken {
			w.table[no] = len(w.records)
			w.records = append(w.records, api.Handle{Id: p.Attr.Id, Epoch: p.Epoch, Path: path})
			r.Handle = no
			return
		}
	}
	r.Status = api.ErrHandles
}

func (w *told) close(h int) api.Errno {
	if _, ok := w.table[h]; !ok {
		return api.ErrHandle
	}
	delete(w.table, h)
	return api.OK
}

func (w *told) flying() []int {
	var list []int
	for i, f := range w.calls {
		if !f.over {
			list = append(list, i+1)
		}
	}
	return list
}

func (w *told) handles() []api.Handle {
	var list []api.Handle
	for no := range 64 {
		if at, ok := w.table[no]; ok {
			h := w.records[at]
			h.No = no
			list = append(list, h)
		}
	}
	return list
}

// ground is a client, and what the second telling says of it.
type ground struct {
	t *testing.T
	c *client.Client
	w *told
}

func groundOf(t *testing.T, id, window int, p api.Params) *ground {
	t.Helper()
	g := &ground{t: t, c: made(t, id, window, p), w: &told{x: rtx.New(id, window, p), id: id, window: window, table: map[int]int{}, sent: map[int]api.Request{}}}
	g.holds()
	return g
}

// start asks that Start answers what the second telling does, and tells that.
func (g *ground) start(now int, k api.Call) (int, api.Errno) {
	g.t.Helper()
	n, code := g.c.Start(now, k)
	wantN, wantCode := g.w.start(now, k)
	if code != wantCode || n != wantN {
		g.t.Fatalf("Start(%d, %+v): %d, %d, want %d, %d", now, k, n, code, wantN, wantCode)
	}
	g.holds()
	return n, code
}

// starts is a Start that must go well.
func (g *ground) starts(now int, k api.Call) int {
	g.t.Helper()
	n, code := g.start(now, k)
	is(g.t, "Start's error", code, api.OK)
	return n
}

// refuses is a Start that must answer an error.
func (g *ground) refuses(now int, k api.Call, want api.Errno) {
	g.t.Helper()
	n, code := g.start(now, k)
	if code != want || n != 0 {
		g.t.Fatalf("Start(%+v): %d, %d, want 0, %d", k, n, code, want)
	}
}

func (g *ground) closes(h int, want api.Errno) {
	g.t.Helper()
	is(g.t, "Close's error", g.close(h), want)
}

func (g *ground) close(h int) api.Errno {
	g.t.Helper()
	code := g.c.Close(h)
	is(g.t, "Close's error", code, g.w.close(h))
	g.holds()
	return code
}

// receive tells whether the datagram was an answer.
func (g *ground) receive(now int, b []byte) bool {
	g.t.Helper()
	g.c.Receive(now, b)
	ok := g.w.receive(now, b)
	g.holds()
	return ok
}

// gets lets a reply come.
func (g *ground) gets(now int, p api.Reply) bool {
	g.t.Helper()
	return g.receive(now, datagram(g.t, p))
}

// answer lets a good reply to a request come, with the id in its Attr, if it has one.
func (g *ground) answer(now int, r api.Request, epoch, id int) {
	g.t.Helper()
	is(g.t, "whether it is an answer", g.gets(now, goodReply(r, epoch, id)), true)
}

// refuse lets a reply with a status come to a request.
func (g *ground) refuse(now int, r api.Request, epoch int, status api.Errno) {
	g.t.Helper()
	is(g.t, "whether it is an answer", g.gets(now, api.Reply{Client: r.Client, Seq: r.Seq, Epoch: epoch, Op: r.Op, Status: status}), true)
}

func (g *ground) tick(now int) {
	g.t.Helper()
	g.c.Tick(now)
	g.w.time(now)
	g.w.x.Tick(g.w.now)
	g.holds()
}

// take tells the requests that are taken.
func (g *ground) take() []api.Request {
	g.t.Helper()
	list := g.c.Take()
	is(g.t, "whether Take gives what was sent, in its order", slices.EqualFunc(list, g.w.x.Take(), bytes.Equal), true)
	g.holds()
	return requestsOf(g.t, list)
}

// one is the one request that is taken.
func (g *ground) one() api.Request {
	g.t.Helper()
	list := g.take()
	if len(list) != 1 {
		g.t.Fatalf("%d requests go out: %+v", len(list), list)
	}
	return list[0]
}

func (g *ground) results() []api.Result {
	g.t.Helper()
	list := g.c.Results()
	if !slices.EqualFunc(list, g.w.results, sameResult) {
		g.t.Fatalf("Results: %+v, want %+v", list, g.w.results)
	}
	g.w.results = nil
	g.holds()
	return list
}

// ends asks for the one result that has come.
func (g *ground) ends(want api.Result) {
	g.t.Helper()
	list := g.results()
	if len(list) != 1 || !sameResult(list[0], want) {
		g.t.Fatalf("Results: %+v, want %+v", list, want)
	}
}

// handle makes a handle of a path by LOOKUP, and tells its number.
func (g *ground) handle(path string, id, epoch int) int {
	g.t.Helper()
	n := g.starts(0, look(path))
	for _, r := range g.take() {
		if r.Op == api.Lookup && r.Path == path {
			g.answer(0, r, epoch, id)
		}
	}
	for _, r := range g.results() {
		if r.Call == n && r.Status == api.OK {
			return r.Handle
		}
	}
	g.t.Fatalf("no handle of %q", path)
	return 0
}

// holds asks for all that can be told without changing anything.
func (g *ground) holds() {
	g.t.Helper()
	handles(g.t, g.c, g.w.handles()...)
	flies(g.t, g.c, g.w.flying()...)
	if got, want := g.c.Waiting(), g.w.x.Waiting(); !slices.Equal(got, want) {
		g.t.Fatalf("Waiting: %+v, want %+v", got, want)
	}
	for n := max(-1, len(g.w.calls)-20); n <= len(g.w.calls)+1; n++ {
		var want []int
		if n > 0 && n <= len(g.w.calls) && !g.w.calls[n-1].over {
			want = g.w.calls[n-1].wires
		}
		wires(g.t, g.c, n, want...)
	}
}

func handles(t *testing.T, c *client.Client, want ...api.Handle) {
	t.Helper()
	if got := c.Handles(); !slices.Equal(got, want) {
		t.Fatalf("Handles: %+v, want %+v", got, want)
	}
}

func flies(t *testing.T, c *client.Client, want ...int) {
	t.Helper()
	if got := c.Flying(); !slices.Equal(got, want) {
		t.Fatalf("Flying: %v, want %v", got, want)
	}
}

func wires(t *testing.T, c *client.Client, call int, want ...int) {
	t.Helper()
	if got := c.Wires(call); !slices.Equal(got, want) {
		t.Fatalf("Wires(%d): %v, want %v", call, got, want)
	}
}

func made(t *testing.T, id, window int, p api.Params) *client.Client {
	t.Helper()
	c := client.New(id, window, p)
	if c == nil {
		t.Fatalf("New(%d, %d, %+v) is nil", id, window, p)
	}
	return c
}

func look(path string) api.Call { return api.Call{Op: api.Lookup, Path: path} }

func datagram(t *testing.T, p api.Reply) []byte {
	t.Helper()
	b, code := msg.EncodeReply(p)
	if code != api.OK {
		t.Fatalf("EncodeReply(%+v): %d", p, code)
	}
	return b
}

func requestsOf(t *testing.T, list [][]byte) []api.Request {
	t.Helper()
	var all []api.Request
	for _, b := range list {
		r, code := msg.DecodeRequest(b)
		is(t, "DecodeRequest of what is sent", code, api.OK)
		all = append(all, r)
	}
	return all
}

// goodReply is a reply with Status 0 to a request, with the id in its Attr, if it has one.
func goodReply(r api.Request, epoch, id int) api.Reply {
	p := api.Reply{Client: r.Client, Seq: r.Seq, Epoch: epoch, Op: r.Op}
	switch r.Op {
	case api.Lookup, api.Getattr, api.Mkdir:
		p.Attr = api.Attr{Id: id, Kind: api.Dir, Size: 64, Change: 9}
	case api.Read:
		p.Attr, p.Data = api.Attr{Id: id, Kind: api.File, Size: 5, Change: 9}, []byte("hello")
	case api.Write, api.Create:
		p.Attr = api.Attr{Id: id, Kind: api.File, Size: 5, Change: 9}
	case api.Readdir:
		p.List, p.More = []api.Entry{{Name: "a", Id: 257, Kind: api.File}, {Name: "b", Id: 258, Kind: api.Dir}}, true
	}
	return p
}

func sameRequest(a, b api.Request) bool {
	return a.Client == b.Client && a.Seq == b.Seq && a.Ack == b.Ack && a.Epoch == b.Epoch && a.Op == b.Op && a.Id == b.Id && a.Id2 == b.Id2 &&
		a.Off == b.Off && a.Len == b.Len && a.Path == b.Path && a.Name == b.Name && a.Name2 == b.Name2 && bytes.Equal(a.Data, b.Data)
}

func sameResult(a, b api.Result) bool {
	return a.Call == b.Call && a.Op == b.Op && a.Status == b.Status && a.Handle == b.Handle && a.Attr == b.Attr &&
		bytes.Equal(a.Data, b.Data) && slices.Equal(a.List, b.List) && a.More == b.More
}

// asks that a request is the one that is wanted.
func asks(t *testing.T, got, want api.Request) {
	t.Helper()
	if !sameRequest(got, want) {
		t.Fatalf("the request %+v, want %+v", got, want)
	}
}

// statuses are all that a reply may have but 0, and ErrBusy, which is no answer.
func statuses() []api.Errno {
	return []api.Errno{api.ErrStale, api.ErrInodes, api.ErrFBig, api.ErrNoEnt, api.ErrExist, api.ErrNotDir, api.ErrIsDir, api.ErrNotEmpty, api.ErrInside, api.ErrQuota, api.ErrEpoch}
}

// deepPath is one of so many names.
func deepPath(many int) string { return strings.Repeat("/x", many) }

// longName is the longest name.
var longName = strings.Repeat("n", api.MaxName)

// goodCalls are such of each operation, with these handles.
func goodCalls(h, h2 int) []api.Call {
	return []api.Call{
		look("/"), look("/a"), look(strings.Repeat("/"+longName, api.MaxDepth)),
		{Op: api.Getattr, H: h},
		{Op: api.Read, H: h, Len: 1}, {Op: api.Read, H: h, Off: api.MaxSize, Len: api.MaxIO},
		{Op: api.Write, H: h, Data: []byte{0}}, {Op: api.Write, H: h, Off: api.MaxSize, Data: bytes.Repeat([]byte{0xab}, api.MaxIO)},
		{Op: api.Create, H: h, Name: "f"}, {Op: api.Create, H: h, Name: longName},
		{Op: api.Remove, H: h, Name: "f"},
		{Op: api.Mkdir, H: h, Name: "d"},
		{Op: api.Rmdir, H: h, Name: "d"},
		{Op: api.Rename, H: h, Name: "f", H2: h2, Name2: "g"}, {Op: api.Rename, H: h, Name: longName, H2: h2, Name2: longName},
		{Op: api.Readdir, H: h, Len: 1}, {Op: api.Readdir, H: h, Name: "a", Len: api.MaxList},
	}
}

// edges are numbers at the ends of what an int is, and around those of narrower ones.
func edges() []int {
	return []int{math.MinInt, math.MinInt + 1, -1 << 62, math.MinInt32, -9, -1, 0, 1, 7, 8, 9, math.MaxInt32, math.MaxUint32 + 1, api.MaxNumber - 1, api.MaxNumber, api.MaxNumber + 1, math.MaxInt - 1, math.MaxInt}
}

func pick[T any](chance *rand.Rand, list []T) T { return list[chance.Intn(len(list))] }

func is[T comparable](t *testing.T, what string, got, want T) {
	t.Helper()
	if got != want {
		t.Fatalf("%s: %v, want %v", what, got, want)
	}
}
