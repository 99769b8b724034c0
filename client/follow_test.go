package client_test

import (
	"bytes"
	"fmt"
	"math/rand"
	"slices"
	"testing"

	"annex/api"
	"annex/client"
	"annex/device"
	"annex/msg"
	"annex/server"
)

// watched is a client of whom it is kept what P19.9 and P19.10 speak of.
type watched struct {
	t      *testing.T
	c      *client.Client
	id     int
	window int
	epoch  int             // E, from the datagrams that came
	calls  map[int]*flying // those that fly
	ended  map[int]bool
	done   int
}

type flying struct {
	op, records, rises int
	wires              []int
}

func watch(t *testing.T, id, window int) *watched {
	t.Helper()
	return &watched{t: t, c: made(t, id, window, usual), id: id, window: window, calls: map[int]*flying{}, ended: map[int]bool{}}
}

func (w *watched) start(now int, k api.Call) {
	w.t.Helper()
	n, code := w.c.Start(now, k)
	if code == api.OK {
		f := &flying{op: k.Op, records: 1}
		if k.Op == api.Lookup {
			f.records = 0
		}
		if k.Op == api.Rename {
			f.records = 2
		}
		w.calls[n] = f
	}
	is(w.t, "how many results a Start brings", len(w.c.Results()), 0)
	w.look()
}

func (w *watched) tick(now int) {
	w.t.Helper()
	w.c.Tick(now)
	is(w.t, "how many results a Tick brings", len(w.c.Results()), 0)
	w.look()
}

// receive lets a datagram come, and asks that at most the call ends whose request it answers.
func (w *watched) receive(now int, b []byte) {
	w.t.Helper()
	p, code := msg.DecodeReply(b)
	valid := code == api.OK && p.Client == w.id
	if valid && p.Epoch > w.epoch {
		w.epoch = p.Epoch
		for _, f := range w.calls {
			f.rises++
		}
	}
	outstanding := slices.ContainsFunc(w.c.Waiting(), func(o api.Waiting) bool { return o.Seq == p.Seq })
	w.c.Receive(now, b)
	list := w.c.Results()
	if len(list) > 1 || len(list) == 1 && (!valid || !outstanding) {
		w.t.Fatalf("%+v, behind the datagram of %+v (%d)", list, p, code)
	}
	for _, r := range list {
		f := w.calls[r.Call]
		if f == nil || w.ended[r.Call] {
			w.t.Fatalf("the call %d does not fly: %+v", r.Call, r)
		}
		is(w.t, "the result's Op", r.Op, f.op)
		is(w.t, "whether the reply's seq is the call's last one", f.wires[len(f.wires)-1], p.Seq)
		w.speaks(f, r, p)
		delete(w.calls, r.Call)
		w.ended[r.Call] = true
		w.done++
	}
	w.look()
}

// speaks asks that the result says what the reply does, but for what the client itself may find.
func (w *watched) speaks(f *flying, r api.Result, p api.Reply) {
	w.t.Helper()
	if r.Status == api.ErrStale && f.op != p.Op {
		is(w.t, "what was looked up", p.Op, api.Lookup)
		return
	}
	is(w.t, "the reply's operation", p.Op, f.op)
	if r.Status != p.Status && r.Status != api.ErrHandles || r.Attr != p.Attr || !bytes.Equal(r.Data, p.Data) || !slices.Equal(r.List, p.List) || r.More != p.More {
		w.t.Fatalf("the result is %+v, of the reply %+v", r, p)
	}
}

// look asks what P19.9 and P19.10 say of the calls that fly.
func (w *watched) look() {
	w.t.Helper()
	list := w.c.Flying()
	if len(list) != len(w.calls) || len(list) > w.window || !slices.IsSorted(list) {
		w.t.Fatalf("window %d: %v fly", w.window, list)
	}
	if len(list) > 0 && len(w.c.Waiting()) == 0 {
		w.t.Fatalf("%v fly, and nothing is outstanding", list)
	}
	all := map[int]bool{}
	for _, n := range list {
		f := w.calls[n]
		f.wires = w.c.Wires(n)
		if !slices.IsSorted(f.wires) {
			w.t.Fatalf("the seqs of call %d: %v", n, f.wires)
		}
		for _, seq := range f.wires {
			is(w.t, "whether two calls have one wire request", all[seq], false)
			all[seq] = true
		}
	}
	for _, o := range w.c.Waiting() {
		is(w.t, "whether what is outstanding is a flying call's", all[o.Seq], true)
	}
}

// within asks that no call has sent more than it may.
func (w *watched) within() {
	w.t.Helper()
	for n, f := range w.calls {
		most := (1 + f.records) * (1 + f.rises)
		if f.op == api.Lookup {
			most = 1
		}
		if len(f.wires) > most {
			w.t.Fatalf("the call %d (op %d), with E risen %d times, has sent %v", n, f.op, f.rises, f.wires)
		}
	}
}

// scene is clients, a server over a device, and datagrams between them that are lost, doubled, spoilt and late.
type scene struct {
	t       *testing.T
	chance  *rand.Rand
	clients []*watched
	d       *device.Device
	v       *server.Server
	now     int
	under   []api.Packet
	done    map[[2]int]bool // client and seq of all that the server ever kept a reply of
	refused map[[2]int]bool // of all operations that were answered ErrEpoch
	boots   int
}

func sceneOf(t *testing.T, seed int64, window int) *scene {
	t.Helper()
	shape := api.Shape{Clients: 2, Window: 4, Places: 4, Cache: 8, Inodes: 16, Quota: 8192, Data: 80, Journal: 27}
	image, code := server.Format(shape)
	is(t, "Format's error", code, api.OK)
	d, code := device.Image(image)
	is(t, "Image's error", code, api.OK)
	s := &scene{t: t, chance: rand.New(rand.NewSource(seed)), d: d, done: map[[2]int]bool{}, refused: map[[2]int]bool{}}
	s.boot()
	for id := range shape.Clients {
		s.clients = append(s.clients, watch(t, id, window))
	}
	return s
}

func (s *scene) boot() {
	s.t.Helper()
	v, code := server.Open(s.d)
	is(s.t, "Open's error", code, api.OK)
	s.v = v
	s.boots++
	s.kept()
}

// crash lets the power fail at once, with any part of what pends surviving, and boots.
func (s *scene) crash() {
	s.t.Helper()
	keep := make([]bool, len(s.d.Pending()))
	for i := range keep {
		keep[i] = s.chance.Intn(2) == 0
	}
	s.d.Crash(keep)
	s.boot()
}

// kept asks that nothing is ever done under a seq that was answered ErrEpoch.
func (s *scene) kept() {
	s.t.Helper()
	for _, k := range s.v.Kept() {
		at := [2]int{k.Client, k.Seq}
		s.done[at] = true
		if s.refused[at] {
			s.t.Fatalf("client %d: %d was answered ErrEpoch, and is done", k.Client, k.Seq)
		}
	}
}

func (s *scene) serve() {
	s.t.Helper()
	out, code := s.v.Step()
	s.under = append(s.under, out...)
	if code != api.OK {
		s.crash()
	}
	s.kept()
}

// gather takes what a client has to send.
func (s *scene) gather(w *watched) {
	for _, b := range w.c.Take() {
		s.under = append(s.under, api.Packet{To: api.ToServer, Data: b})
	}
	w.within()
}

// deliver lets the datagram at a place come, and keeps in mind which operations were refused.
func (s *scene) deliver(at int) {
	s.t.Helper()
	p := s.under[at]
	s.under = slices.Delete(s.under, at, at+1)
	if p.To == api.ToServer {
		s.under = append(s.under, s.v.Receive(p.Data)...)
		return
	}
	w := s.clients[p.To]
	reply, code := msg.DecodeReply(p.Data)
	if code == api.OK && reply.Status == api.ErrEpoch && slices.ContainsFunc(w.c.Waiting(), func(o api.Waiting) bool { return o.Seq == reply.Seq }) {
		key := [2]int{reply.Client, reply.Seq}
		s.refused[key] = true
		is(s.t, "whether what was answered ErrEpoch had been done", s.done[key], false)
	}
	w.receive(s.now, p.Data)
	s.gather(w)
}

// spoil does something to a datagram under way.
func (s *scene) spoil(at int) {
	p := s.under[at]
	switch s.chance.Intn(3) {
	case 0:
		s.under = slices.Delete(s.under, at, at+1)
	case 1:
		s.under = append(s.under, p)
	default:
		b := bytes.Clone(p.Data)
		b[s.chance.Intn(len(b))] ^= byte(1 + s.chance.Intn(255))
		s.under = append(s.under, api.Packet{To: p.To, Data: b})
	}
}

// call is one that a client may well make, with handles that it has.
func (s *scene) call(w *watched) api.Call {
	list := w.c.Handles()
	if len(list) == 0 || s.chance.Intn(5) == 0 {
		return look(pick(s.chance, []string{"/", "/", "/a", "/d", "/d/a", "/d/d"}))
	}
	h, h2 := pick(s.chance, list).No, pick(s.chance, list).No
	name, name2 := pick(s.chance, []string{"a", "b", "d"}), pick(s.chance, []string{"a", "b", "d"})
	return pick(s.chance, []api.Call{
		{Op: api.Getattr, H: h}, {Op: api.Read, H: h, Off: s.chance.Intn(9), Len: 9}, {Op: api.Write, H: h, Data: []byte(name)},
		{Op: api.Create, H: h, Name: name}, {Op: api.Remove, H: h, Name: name}, {Op: api.Mkdir, H: h, Name: name}, {Op: api.Rmdir, H: h, Name: name},
		{Op: api.Rename, H: h, Name: name, H2: h2, Name2: name2}, {Op: api.Readdir, H: h, Len: 2},
	})
}

// happen lets one thing happen, whichever.
func (s *scene) happen() {
	s.t.Helper()
	w := pick(s.chance, s.clients)
	switch n := s.chance.Intn(200); {
	case n < 40:
		w.start(s.now, s.call(w))
		s.gather(w)
	case n < 44:
		w.c.Close(s.chance.Intn(8))
	case n < 130 && len(s.under) > 0:
		s.deliver(s.chance.Intn(len(s.under)))
	case n < 142 && len(s.under) > 0:
		s.spoil(s.chance.Intn(len(s.under)))
	case n < 180:
		s.serve()
	case n < 198:
		s.tick()
	case n < 199:
		s.crash()
	default:
		s.d.Arm(1 + s.chance.Intn(20))
	}
	if !s.d.Power() { // a Receive may meet it too
		s.crash()
	}
}

func (s *scene) tick() {
	s.t.Helper()
	s.now++
	for _, w := range s.clients {
		w.tick(s.now)
		s.gather(w)
	}
}

// calm lets all arrive till no call flies.
func (s *scene) calm() {
	s.t.Helper()
	for range 2000 {
		for len(s.under) > 0 {
			s.deliver(0)
			s.serve()
		}
		s.tick()
	}
	for _, w := range s.clients {
		flies(s.t, w.c)
	}
}

// TestP19_9AndP19_10Honest: clients and an honest server, whose power fails now and then, with datagrams that meet everything: nothing is silent, no call ends twice, none sends more than it may, and what was answered ErrEpoch is never done.
func TestP19_9AndP19_10Honest(t *testing.T) {
	for seed := range 24 {
		t.Run(fmt.Sprint(seed), func(t *testing.T) {
			t.Parallel()
			s := sceneOf(t, int64(seed), 1+seed%4)
			for range 6000 {
				s.happen()
			}
			s.d.Arm(0)
			s.calm()
			if s.boots < 20 || s.clients[0].done+s.clients[1].done < 80 || len(s.refused) < 5 {
				t.Fatalf("a poor story: %d boots, %d and %d calls ended, %d refused", s.boots, s.clients[0].done, s.clients[1].done, len(s.refused))
			}
		})
	}
}

// TestP19_9Dishonest: replies that no server would give, to all windows: still nothing is silent, and no call ends twice.
func TestP19_9Dishonest(t *testing.T) {
	for window := 1; window <= api.MaxWindow; window++ {
		chance := rand.New(rand.NewSource(int64(window)))
		w := watch(t, 3, window)
		ops := map[int]api.Request{}
		for now := range 4000 {
			h, h2 := chance.Intn(4), chance.Intn(4)
			w.start(now, pick(chance, goodCalls(h, h2)))
			w.tick(now)
			for _, r := range requestsOf(t, w.c.Take()) {
				ops[r.Seq] = r
			}
			for _, o := range w.c.Waiting() {
				if chance.Intn(4) == 0 {
					p := goodReply(ops[o.Seq], 1+chance.Intn(1+now/10), 256+len(ops[o.Seq].Path))
					if chance.Intn(2) == 0 {
						p = api.Reply{Client: 3, Seq: p.Seq, Epoch: p.Epoch, Op: p.Op, Status: pick(chance, statuses())}
					}
					w.receive(now, datagram(t, p))
					w.c.Close(chance.Intn(64))
				}
			}
		}
		is(t, "whether many calls have ended", w.done > 500, true)
	}
}
