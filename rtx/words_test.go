package rtx_test

import (
	"bytes"
	"math"
	"math/rand"
	"slices"
	"sort"
	"strings"
	"testing"

	"annex/api"
	"annex/msg"
	"annex/rto"
	"annex/rtx"
)

// usual are the params of the chapter's examples.
var usual = api.Params{Min: 2, First: 8, Max: 64}

// row is an outstanding request, as the second telling has it.
type row struct {
	api.Waiting
	op    int
	bytes []byte
}

// told is a second telling of the chapter: a plain list of what is outstanding, by seq, gone through from end to end each time.
type told struct {
	client, window    int
	params            api.Params
	est               api.Est
	now, next, ack, e int
	rows              []row
	out               [][]byte
}

func (w *told) time(now int) {
	if now > w.now {
		w.now = now
	}
	if w.now > 1<<62 {
		w.now = 1 << 62
	}
}

func (w *told) send(now int, r api.Request) (int, api.Errno) {
	w.time(now)
	r.Client, r.Seq, r.Ack = w.client, w.next, w.ack
	if code := msg.CheckRequest(r); code != api.OK {
		return 0, code
	}
	if w.next-w.ack > w.window {
		return 0, api.ErrWindow
	}
	b, _ := msg.EncodeRequest(r)
	w.out = append(w.out, b)
	w.rows = append(w.rows, row{Waiting: api.Waiting{Seq: w.next, First: w.now, Last: w.now, Due: w.now + rto.Wait(w.params, w.est), Times: 1}, op: r.Op, bytes: b})
	w.next++
	return r.Seq, api.OK
}

func (w *told) receive(now int, b []byte) (api.Reply, bool) {
	w.time(now)
	p, code := msg.DecodeReply(b)
	if code != api.OK || p.Client != w.client {
		return api.Reply{}, false
	}
	if p.Epoch > w.e {
		w.e = p.Epoch
	}
	for i, r := range w.rows {
		if r.Seq != p.Seq || r.op != p.Op || p.Status == api.ErrBusy {
			continue
		}
		if r.Times == 1 {
			w.est = rto.Sample(w.params, w.est, w.now-r.Last)
		}
		w.rows = slices.Delete(slices.Clone(w.rows), i, i+1)
		w.ack = w.next - 1
		if len(w.rows) > 0 {
			w.ack = w.rows[0].Seq - 1
		}
		return p, true
	}
	return api.Reply{}, false
}

func (w *told) tick(now int) {
	w.time(now)
	var due []*row
	for i := range w.rows {
		if w.rows[i].Due <= w.now {
			due = append(due, &w.rows[i])
		}
	}
	sort.SliceStable(due, func(i, j int) bool { return due[i].Due < due[j].Due })
	for _, r := range due {
		w.est = rto.Expire(w.params, w.est)
		r.Last, r.Due = w.now, w.now+rto.Wait(w.params, w.est)
		r.Times++
		w.out = append(w.out, r.bytes)
	}
}

func (w *told) waiting() []api.Waiting {
	var list []api.Waiting
	for _, r := range w.rows {
		list = append(list, r.Waiting)
	}
	return list
}

// ground is a transport, and what the second telling says of it.
type ground struct {
	t *testing.T
	x *rtx.Rtx
	w *told
}

func groundOf(t *testing.T, client, window int, p api.Params) *ground {
	t.Helper()
	g := &ground{t: t, x: made(t, client, window, p)}
	g.w = &told{client: client, window: window, params: p, est: api.Est{Rto: p.First}, next: 1}
	g.holds()
	return g
}

// send asks that Send answers what the second telling does, and tells that.
func (g *ground) send(now int, r api.Request) (int, api.Errno) {
	g.t.Helper()
	seq, code := g.x.Send(now, r)
	wantSeq, wantCode := g.w.send(now, r)
	is(g.t, "Send's error", code, wantCode)
	is(g.t, "Send's seq", seq, wantSeq)
	g.holds()
	return seq, code
}

// sends is a Send that must go well.
func (g *ground) sends(now int, r api.Request) int {
	g.t.Helper()
	seq, code := g.send(now, r)
	is(g.t, "Send's error", code, api.OK)
	return seq
}

func (g *ground) receive(now int, b []byte) bool {
	g.t.Helper()
	p, ok := g.x.Receive(now, b)
	want, wanted := g.w.receive(now, b)
	is(g.t, "whether it is an answer", ok, wanted)
	is(g.t, "whether Receive's reply is the one that came", sameReply(p, want), true)
	g.holds()
	return ok
}

// answer lets the reply of seq come, with epoch 1: it must be taken as an answer.
func (g *ground) answer(now, seq int) {
	g.t.Helper()
	is(g.t, "whether it is an answer", g.receive(now, found(g.t, g.w.client, seq, 1)), true)
}

func (g *ground) tick(now int) {
	g.t.Helper()
	g.x.Tick(now)
	g.w.tick(now)
	g.holds()
}

// take tells the seqs of what is taken.
func (g *ground) take() []int {
	g.t.Helper()
	list := g.x.Take()
	is(g.t, "whether Take gives what joined, in its order", slices.EqualFunc(list, g.w.out, bytes.Equal), true)
	g.w.out = nil
	g.holds()
	return seqsOf(g.t, list)
}

// takes asks for the seqs of what is taken.
func (g *ground) takes(want ...int) {
	g.t.Helper()
	if got := g.take(); !slices.Equal(got, want) {
		g.t.Fatalf("Take: the seqs %v, want %v", got, want)
	}
}

// holds asks for all that can be told.
func (g *ground) holds() {
	g.t.Helper()
	is(g.t, "Ack", g.x.Ack(), g.w.ack)
	is(g.t, "Next", g.x.Next(), g.w.next)
	is(g.t, "Epoch", g.x.Epoch(), g.w.e)
	is(g.t, "Est", g.x.Est(), g.w.est)
	waits(g.t, g.x, g.w.waiting()...)
}

func waits(t *testing.T, x *rtx.Rtx, want ...api.Waiting) {
	t.Helper()
	if got := x.Waiting(); !slices.Equal(got, want) {
		t.Fatalf("Waiting: %+v, want %+v", got, want)
	}
}

func made(t *testing.T, client, window int, p api.Params) *rtx.Rtx {
	t.Helper()
	x := rtx.New(client, window, p)
	if x == nil {
		t.Fatalf("New(%d, %d, %+v) is nil", client, window, p)
	}
	return x
}

func look(path string) api.Request { return api.Request{Op: api.Lookup, Path: path} }

func datagram(t *testing.T, p api.Reply) []byte {
	t.Helper()
	b, code := msg.EncodeReply(p)
	if code != api.OK {
		t.Fatalf("EncodeReply(%+v): %d", p, code)
	}
	return b
}

// found is the datagram of a good reply to a LOOKUP.
func found(t *testing.T, client, seq, epoch int) []byte {
	t.Helper()
	return datagram(t, api.Reply{Client: client, Seq: seq, Epoch: epoch, Op: api.Lookup, Attr: api.Attr{Id: api.Root, Kind: api.Dir, Change: 1}})
}

// refused is the datagram of a reply with a status.
func refused(t *testing.T, client, seq, epoch, op int, status api.Errno) []byte {
	t.Helper()
	return datagram(t, api.Reply{Client: client, Seq: seq, Epoch: epoch, Op: op, Status: status})
}

func seqsOf(t *testing.T, list [][]byte) []int {
	t.Helper()
	var seqs []int
	for _, b := range list {
		seqs = append(seqs, requestOf(t, b).Seq)
	}
	return seqs
}

func requestOf(t *testing.T, b []byte) api.Request {
	t.Helper()
	r, code := msg.DecodeRequest(b)
	is(t, "DecodeRequest of what is sent", code, api.OK)
	return r
}

func sameReply(a, b api.Reply) bool {
	return a.Client == b.Client && a.Seq == b.Seq && a.Epoch == b.Epoch && a.Op == b.Op && a.Status == b.Status && a.Attr == b.Attr &&
		bytes.Equal(a.Data, b.Data) && slices.Equal(a.List, b.List) && a.More == b.More
}

// statuses are all that a reply may have, with 0.
func statuses() []api.Errno {
	return []api.Errno{api.OK, api.ErrStale, api.ErrInodes, api.ErrFBig, api.ErrNoEnt, api.ErrExist, api.ErrNotDir, api.ErrIsDir, api.ErrNotEmpty, api.ErrInside, api.ErrQuota, api.ErrBusy, api.ErrEpoch}
}

// requests are valid ones, of each operation, the greatest too.
func requests() []api.Request {
	full := bytes.Repeat([]byte{0xab}, api.MaxIO)
	long := strings.Repeat("n", api.MaxName)
	return []api.Request{
		look("/"), look(strings.Repeat("/"+long, api.MaxDepth)),
		{Op: api.Getattr, Id: 256, Epoch: 1},
		{Op: api.Read, Id: 1, Off: api.MaxSize, Len: api.MaxIO, Epoch: 2},
		{Op: api.Write, Id: 1<<49 - 1, Off: 3, Data: full, Epoch: api.MaxNumber},
		{Op: api.Write, Id: 257, Data: []byte{0}},
		{Op: api.Create, Id: 256, Name: long},
		{Op: api.Remove, Id: 256, Name: "a"},
		{Op: api.Mkdir, Id: 256, Name: "b"},
		{Op: api.Rmdir, Id: 256, Name: "b"},
		{Op: api.Rename, Id: 256, Name: "a", Id2: 257, Name2: "b"},
		{Op: api.Readdir, Id: 256, Len: api.MaxList},
	}
}

// wrong is a request that is refused, and how.
type wrong struct {
	r    api.Request
	code api.Errno
}

func wrongs() []wrong {
	return []wrong{
		{api.Request{}, api.ErrOp},
		{api.Request{Op: -1}, api.ErrOp},
		{api.Request{Op: 11, Path: "/"}, api.ErrOp},
		{api.Request{Op: math.MaxInt}, api.ErrOp},
		{api.Request{Op: api.Lookup, Path: "/", Epoch: -1}, api.ErrEra},
		{api.Request{Op: 11, Epoch: api.MaxNumber + 1}, api.ErrEra},
		{api.Request{Op: api.Lookup, Path: "/", Epoch: math.MaxInt}, api.ErrEra},
		{look("a"), api.ErrField},
		{look(""), api.ErrField},
		{api.Request{Op: api.Lookup, Path: "/", Id: 256}, api.ErrField},
		{api.Request{Op: api.Read, Id: 256}, api.ErrField},
		{api.Request{Op: api.Read, Id: 256, Len: api.MaxIO + 1}, api.ErrField},
		{api.Request{Op: api.Write, Id: 256}, api.ErrField},
		{api.Request{Op: api.Write, Id: 256, Data: make([]byte, api.MaxIO+1)}, api.ErrField},
		{api.Request{Op: api.Create, Id: 0, Name: "a"}, api.ErrField},
		{api.Request{Op: api.Rename, Id: 256, Name: "a", Id2: 256}, api.ErrField},
	}
}

// replyTo is a good reply to an operation.
func replyTo(client, seq, epoch, op int) api.Reply {
	p := api.Reply{Client: client, Seq: seq, Epoch: epoch, Op: op}
	switch op {
	case api.Lookup, api.Getattr, api.Mkdir:
		p.Attr = api.Attr{Id: 300, Kind: api.Dir, Size: 64, Change: 9}
	case api.Read:
		p.Attr, p.Data = api.Attr{Id: 257, Kind: api.File, Size: 5, Change: 9}, []byte("hello")
	case api.Write, api.Create:
		p.Attr = api.Attr{Id: 257, Kind: api.File, Size: 5, Change: 9}
	case api.Readdir:
		p.List, p.More = []api.Entry{{Name: "a", Id: 257, Kind: api.File}, {Name: "b", Id: 258, Kind: api.Dir}}, true
	}
	return p
}

// someParams are such at the edges of what may be, and others.
func someParams() []api.Params {
	return []api.Params{
		usual, {Min: 1, First: 1, Max: 1}, {Min: 1, First: 1, Max: 2}, {Min: 1, First: 1, Max: 100}, {Min: 3, First: 3, Max: 3}, {Min: 5, First: 7, Max: 9},
		{Min: 1, First: 20, Max: 20}, {Min: 1, First: 3, Max: api.MaxTicks}, {Min: api.MaxTicks, First: api.MaxTicks, Max: api.MaxTicks},
	}
}

// edges are numbers at the ends of what an int is, and around those of narrower ones.
func edges() []int {
	return []int{math.MinInt, math.MinInt + 1, -1 << 62, math.MinInt32, -9, -1, 0, 1, 7, 8, 9, math.MaxInt32, math.MaxUint32 + 1, api.MaxNumber - 1, api.MaxNumber, api.MaxNumber + 1, math.MaxInt - 1, math.MaxInt}
}

func pick[T any](chance *rand.Rand, list []T) T { return list[chance.Intn(len(list))] }

func is[T comparable](t *testing.T, what string, got, want T) {
	t.Helper()
	if got != want {
		t.Fatalf("%s: %v, want %v", what, got, want)
	}
}
