package server_test

import (
	"fmt"
	"math/rand"
	"testing"

	"annex/api"
	"annex/device"
	"annex/msg"
	"annex/server"
)

// honest is a client that keeps to the rules: so many seqs outstanding, its Ack true when a request is first sent, the same bytes always.
type honest struct {
	seq, ack int
	out      map[int][]byte // by seqs: what has no answer yet
	answered map[int]int
	epochs   []int // of replies
}

// town is honest clients, a server, and whatever is under way between them: nothing that was ever sent is past coming again.
type town struct {
	*chance
	d       *device.Device
	s       *server.Server
	clients []*honest
	window  int // how many seqs may be outstanding
	beyond  bool
	toward  [][]byte     // to the server
	back    []api.Packet // to the clients
	dones   int
}

func townOf(t *testing.T, shape api.Shape, seed int64, beyond bool) *town {
	w := &town{chance: newChance(t, shape, seed), window: min(shape.Window, shape.Places), beyond: beyond}
	w.s, w.d = up(t, shape)
	for range shape.Clients {
		w.clients = append(w.clients, &honest{out: map[int][]byte{}, answered: map[int]int{}, epochs: []int{0}})
	}
	return w
}

// asks sends a new request, if its client may; a seq is used only up to ack + window, unless the town goes beyond.
func (w *town) asks(c int) {
	h := w.clients[c]
	if len(h.out) >= w.window || !w.beyond && h.seq >= h.ack+w.window {
		return
	}
	h.seq++
	epoch := h.epochs[len(h.epochs)-1]
	if w.r.Intn(6) == 0 {
		epoch = h.epochs[w.r.Intn(len(h.epochs))]
	}
	h.out[h.seq] = datagram(w.t, w.operation(from(c, h.seq, h.ack, epoch)))
	w.toward = append(w.toward, h.out[h.seq])
}

// goesOut: nobody hears BUSY.
func (w *town) goesOut(list []api.Packet) {
	w.t.Helper()
	for _, p := range list {
		reply, code := msg.DecodeReply(p.Data)
		is(w.t, "DecodeReply", code, api.OK)
		if reply.Status == api.ErrBusy {
			w.t.Fatalf("client %d hears BUSY at seq %d", p.To, reply.Seq)
		}
	}
	w.hear(list)
	w.back = append(w.back, list...)
}

// gets is a reply that comes to its client.
func (w *town) gets(p api.Packet) {
	h := w.clients[p.To]
	reply, _ := msg.DecodeReply(p.Data)
	h.epochs = append(h.epochs, max(reply.Epoch, h.epochs[len(h.epochs)-1]))
	if h.out[reply.Seq] == nil {
		return
	}
	delete(h.out, reply.Seq)
	h.answered[reply.Seq] = 1
	for h.answered[h.ack+1] == 1 {
		h.ack++
	}
	w.dones++
}

// picks is mostly one of the last ones, sometimes any.
func picks[V any](r *rand.Rand, list []V) V {
	if r.Intn(4) > 0 {
		return list[len(list)-1-r.Intn(min(len(list), 6))]
	}
	return list[r.Intn(len(list))]
}

func (w *town) happens() {
	w.t.Helper()
	switch n := w.r.Intn(16); {
	case n < 4:
		w.asks(w.r.Intn(len(w.clients)))
	case n < 9 && len(w.toward) > 0:
		w.goesOut(w.s.Receive(picks(w.r, w.toward)))
	case n < 12:
		list, _ := w.s.Step()
		w.goesOut(list)
	case len(w.back) > 0:
		w.gets(picks(w.r, w.back))
	}
	if w.s.Up() {
		return
	}
	code := api.ErrPower
	for code != api.OK {
		w.d.Crash(w.survivors(len(w.d.Pending())))
		w.s, code = server.Open(w.d)
	}
}

// TestP15_11Honest: with as many kept replies as all windows have, no honest client hears BUSY, whatever is lost, late or doubled, and whenever the power fails.
func TestP15_11Honest(t *testing.T) {
	for _, n := range [][3]int{{1, 1, 1}, {1, 4, 4}, {2, 2, 2}, {3, 2, 1}, {2, 3, 8}, {3, 1, 4}, {2, 8, 8}, {8, 8, 8}, {8, 1, 1}} {
		shape := api.Shape{Clients: n[0], Window: n[1], Places: n[2], Cache: n[0] * n[1], Inodes: 6, Quota: 6000, Data: 36, Journal: 27}
		for seed := range int64(6) {
			t.Run(fmt.Sprint(n, seed), func(t *testing.T) {
				t.Parallel()
				w := townOf(t, shape, seed, seed%3 == 2)
				for range 1500 {
					w.happens()
					if seed%2 == 1 && w.d.Power() && w.r.Intn(50) == 0 {
						w.d.Arm(1 + w.r.Intn(40))
					}
				}
				is(t, "calls were answered", w.dones > 20 || w.beyond && w.dones > 0, true)
			})
		}
	}
}

// TestP15_11Full: all windows full at once, each client at its bound, and none of the replies arrives.
func TestP15_11Full(t *testing.T) {
	for clients := 1; clients <= 8; clients++ {
		for window := 1; window <= 8; window++ {
			shape := api.Shape{Clients: clients, Window: window, Places: window, Cache: clients * window, Inodes: 4, Quota: 0, Data: 16, Journal: 27}
			s, _ := up(t, shape)
			for base := 0; base <= 2*window; base += window {
				for seq := base + window; seq > base; seq-- { // also the last one first
					for c := range clients {
						comes(t, s, lookup(from(c, seq, base, 0), "/"))
					}
				}
				for range clients * window {
					_, ok := executed(t, step(t, s)[0].Data)
					is(t, "a reply", ok, true)
				}
			}
			is(t, "kept", len(s.Kept()), clients*window)
		}
	}
}

// TestP15_11Bounds: beyond the bounds BUSY is heard: with one reply less than the windows have, or one place less.
func TestP15_11Bounds(t *testing.T) {
	shape := api.Shape{Clients: 2, Window: 2, Places: 2, Cache: 3, Inodes: 4, Quota: 0, Data: 16, Journal: 27}
	s, _ := up(t, shape)
	busy := 0
	for c := range 2 {
		for seq := 1; seq <= 2; seq++ {
			comes(t, s, lookup(from(c, seq, 0, 0), "/"))
		}
	}
	for range 4 {
		if _, ok := executed(t, step(t, s)[0].Data); !ok {
			busy++
		}
	}
	is(t, "how many hear BUSY", busy, 1)
}
