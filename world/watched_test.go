package world_test

import (
	"bytes"
	"slices"
	"testing"

	"annex/api"
	"annex/msg"
)

// wire is whose a wire request is, and which.
type wire struct{ client, seq int }

// flight is a call that flies.
type flight struct {
	call    api.Call
	begun   int          // how many requests had been done
	records []api.Handle // of H and H2
	wires   []int
}

// watched is a ground of which it is kept what DOC.md's promises speak of. Its steps do one thing each.
type watched struct {
	*ground
	lone     *lone
	params   api.Params
	seen     int // the greatest number of a datagram so far
	requests map[wire][]byte
	calls    map[wire]*flight // by client and number
	handles  map[wire]api.Handle
	ended    map[api.Errno]int
	again    int // how many ended since their path had led elsewhere
}

func watch(t *testing.T, s api.Shape, p api.Params) *watched {
	t.Helper()
	return &watched{
		ground: groundOf(t, s, p), lone: loneOf(t, s), params: p,
		requests: map[wire][]byte{}, calls: map[wire]*flight{}, handles: map[wire]api.Handle{}, ended: map[api.Errno]int{},
	}
}

// happens does one step, and asks all that must hold behind it.
func (w *watched) happens(o api.Op) []api.Event {
	w.t.Helper()
	list := w.step(o)
	for _, e := range list {
		switch e.Kind {
		case api.EvStarted:
			w.starts(e)
		case api.EvReturned:
			w.returns(e)
		}
	}
	w.travels()
	w.looks()
	w.timers()
	for a, c := range w.told.clients {
		for _, n := range c.Flying() {
			w.calls[wire{a, n}].wires = c.Wires(n)
		}
	}
	return list
}

// round is a run's, one thing behind the other, with no more steps of the server than wait for.
func (w *watched) round() {
	w.t.Helper()
	w.happens(api.Op{Kind: api.OpTick, K: 1})
	w.gives()
	for w.told.up && slices.Max(w.told.v.Waits()) > 0 {
		w.happens(api.Op{Kind: api.OpServe, K: 1})
	}
	w.gives()
}

func (w *watched) gives() {
	w.t.Helper()
	for _, f := range slices.Clone(w.told.row) {
		w.happens(api.Op{Kind: api.OpGive, K: f.No})
	}
}

func (w *watched) starts(e api.Event) {
	f := &flight{call: e.Call, begun: len(w.lone.log)}
	if e.Call.Op != api.Lookup {
		f.records = append(f.records, w.handles[wire{e.A, e.Call.H}])
	}
	if e.Call.Op == api.Rename {
		f.records = append(f.records, w.handles[wire{e.A, e.Call.H2}])
	}
	w.calls[wire{e.A, e.K}] = f
}

// travels: all sendings of a request are the very same bytes (P0.10); nobody hears BUSY, where the shape is for honest clients (P0.14).
func (w *watched) travels() {
	w.t.Helper()
	honest := w.told.shape.Window <= w.told.shape.Places && w.told.shape.Clients*w.told.shape.Window <= w.told.shape.Cache
	for _, f := range w.told.row {
		if f.No <= w.seen {
			continue
		}
		w.seen = f.No
		if r, code := msg.DecodeRequest(f.Data); code == api.OK {
			is(w.t, "where a request goes", f.To, api.ToServer)
			key := wire{r.Client, r.Seq}
			if w.requests[key] == nil {
				w.requests[key] = bytes.Clone(f.Data)
			}
			is(w.t, "whether it is the very same request", bytes.Equal(w.requests[key], f.Data), true)
			is(w.t, "whether it is within the window", r.Seq-r.Ack <= w.told.shape.Window, true)
		}
		if r, code := msg.DecodeReply(f.Data); code == api.OK {
			is(w.t, "where a reply goes", f.To, r.Client)
			is(w.t, "whether somebody honest hears BUSY", honest && r.Status == api.ErrBusy, false)
		}
	}
}

// looks: the server that is up has just what the lone one has (P0.12, P0.13), within its bounds (P0.16).
func (w *watched) looks() {
	w.t.Helper()
	var server api.Event
	var marks, waits []int
	var kept []api.Kept
	size, inodes := 0, 0
	clear(w.handles)
	for _, e := range w.step(api.Op{Kind: api.OpLook}) {
		switch {
		case e.Kind == api.EvServer:
			server = e
		case e.Kind == api.EvMark && e.A < 0:
			size, inodes = e.K, e.M
		case e.Kind == api.EvMark:
			marks, waits = append(marks, e.K), append(waits, e.M)
		case e.Kind == api.EvKept:
			kept = append(kept, e.Kept)
		case e.Kind == api.EvHandle:
			w.handles[wire{e.A, e.Handle.No}] = e.Handle
		}
	}
	if server.A == 0 {
		return
	}
	w.lone.comesTo(server.K, kept, func(client, seq int) []byte { return w.requests[wire{client, seq}] })
	is(w.t, "the watermarks", slices.Equal(marks, w.lone.v.Marks()), true)
	is(w.t, "the kept replies", slices.EqualFunc(kept, w.lone.v.Kept(), func(a, b api.Kept) bool {
		return a.Client == b.Client && a.Seq == b.Seq && a.Stamp == b.Stamp && bytes.Equal(a.Data, b.Data)
	}), true)
	size2, inodes2 := w.lone.v.Usage()
	is(w.t, "the usage", [2]int{size, inodes}, [2]int{size2, inodes2})
	is(w.t, "whether more wait than may", slices.Max(waits) > w.told.shape.Places, false)
	is(w.t, "whether more are kept than may", len(kept) > w.told.shape.Cache, false)
	held := map[wire]int{}
	for _, k := range kept {
		held[wire{k.Client, k.Seq}]++
	}
	for _, d := range w.lone.log {
		is(w.t, "whether a reply above its watermark is gone", d.seq > marks[d.client] && held[wire{d.client, d.seq}] == 0, false)
	}
}

// timers: each outstanding request waits from Min to Max, and is never silent for longer than Max (P0.15, P0.16).
func (w *watched) timers() {
	w.t.Helper()
	for _, c := range w.told.clients {
		for _, x := range c.Waiting() {
			wait := x.Due - x.Last
			is(w.t, "whether a timer is within its bounds", w.params.Min <= wait && wait <= w.params.Max, true)
			is(w.t, "whether a request is silent", w.w.Now() >= x.Due, false)
		}
	}
}

// doings are the transactions of some wire requests of a client.
func (w *watched) doings(client int, seqs []int) []int {
	var list []int
	for i, d := range w.lone.log {
		if d.client == client && slices.Contains(seqs, d.seq) {
			list = append(list, i)
		}
	}
	return list
}

// operations are the seqs that a call's operation was sent under.
func (w *watched) operations(client int, f *flight) []int {
	var list []int
	for _, seq := range f.wires {
		r, _ := msg.DecodeRequest(w.requests[wire{client, seq}])
		if r.Op == f.call.Op {
			list = append(list, seq)
		}
	}
	return list
}

// returns is P0.12 of a call that has returned.
func (w *watched) returns(e api.Event) {
	w.t.Helper()
	key, r := wire{e.A, e.Result.Call}, e.Result
	f := w.calls[key]
	if f == nil {
		w.t.Fatalf("the call %v does not fly", key)
	}
	delete(w.calls, key)
	w.ended[r.Status]++
	is(w.t, "the operation", r.Op, f.call.Op)
	list := w.doings(e.A, w.operations(e.A, f))
	if len(list) == 0 {
		w.again++
		w.leadsElsewhere(e.A, f, r)
		return
	}
	is(w.t, "how often it was done", len(list), 1)
	is(w.t, "whether it was done behind its start", list[0] >= f.begun, true)
	p := w.lone.log[list[0]].reply
	if r.Status == api.ErrHandles {
		r.Status = api.OK
	}
	is(w.t, "the status", r.Status, p.Status)
	is(w.t, "the attributes", r.Attr, p.Attr)
	is(w.t, "the data", string(r.Data), string(p.Data))
	is(w.t, "the list", slices.Equal(r.List, p.List), true)
	is(w.t, "whether there is more", r.More, p.More)
}

// leadsElsewhere: a call whose operation was not done ends with ErrStale, and a path of its handles was looked up within it that did not lead to that handle's id.
func (w *watched) leadsElsewhere(client int, f *flight, r api.Result) {
	w.t.Helper()
	is(w.t, "the status", r.Status, api.ErrStale)
	last := f.wires[len(f.wires)-1:]
	request, _ := msg.DecodeRequest(w.requests[wire{client, last[0]}])
	is(w.t, "what was asked last", request.Op, api.Lookup)
	list := w.doings(client, last)
	is(w.t, "how often it was looked up", len(list), 1)
	is(w.t, "whether it was looked up behind the start", list[0] >= f.begun, true)
	p := w.lone.log[list[0]].reply
	is(w.t, "whether it led elsewhere", slices.ContainsFunc(f.records, func(h api.Handle) bool {
		return h.Path == request.Path && (p.Status != api.OK || p.Attr.Id != h.Id) && h.Epoch < request.Epoch
	}), true)
}

// flies: each call that has not returned was done once at the most (P0.12).
func (w *watched) flies() {
	w.t.Helper()
	for key, f := range w.calls {
		is(w.t, "whether it was done twice", len(w.doings(key.client, w.operations(key.client, f))) > 1, false)
	}
}
