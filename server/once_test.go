package server_test

import (
	"bytes"
	"fmt"
	"testing"

	"annex/api"
	"annex/device"
	"annex/msg"
	"annex/server"
)

// request is whose a request is, and which: what is to be done once.
type request struct{ client, seq int }

// history is a server through boots and crashes, and the transactions that it has committed.
type history struct {
	*chance
	d     *device.Device
	s     *server.Server
	done  map[request][]byte // the reply of the one that was done
	marks []int
}

func historyOf(t *testing.T, shape api.Shape, seed int64) *history {
	h := &history{chance: newChance(t, shape, seed), done: map[request][]byte{}, marks: make([]int, shape.Clients)}
	h.s, h.d = up(t, shape)
	return h
}

// finds takes down a reply of a request that was done.
func (h *history) finds(r request, b []byte) {
	h.t.Helper()
	if h.done[r] != nil {
		h.t.Fatalf("%+v is done a second time", r)
	}
	h.done[r] = b
}

// steps is a Step; the power may fail in it.
func (h *history) steps() {
	h.t.Helper()
	list, code := h.s.Step()
	if code != api.OK {
		is(h.t, "Step", code, api.ErrPower)
		return
	}
	h.hear(list)
	for _, p := range list {
		if reply, ok := executed(h.t, p.Data); ok {
			h.finds(request{p.To, reply.Seq}, p.Data)
		}
	}
	h.looks()
}

// looks: no watermark falls; each reply above its watermark is kept, and each kept one is of a transaction that is known.
func (h *history) looks() {
	h.t.Helper()
	for c, m := range h.s.Marks() {
		is(h.t, "a watermark that falls", m < h.marks[c], false)
		h.marks[c] = m
	}
	kept := map[request][]byte{}
	for _, k := range h.s.Kept() {
		r := request{k.Client, k.Seq}
		kept[r] = k.Data
		is(h.t, "what is kept", bytes.Equal(h.done[r], k.Data), true)
	}
	for r := range h.done {
		if r.seq > h.marks[r.client] && kept[r] == nil {
			h.t.Fatalf("the reply of %+v is gone", r)
		}
	}
}

// crashes: of the Step under way one more transaction may have come through, and then its reply is kept.
func (h *history) crashes() {
	h.t.Helper()
	code := api.ErrPower
	for code != api.OK {
		h.d.Crash(h.survivors(len(h.d.Pending())))
		if h.r.Intn(3) == 0 {
			h.d.Arm(1 + h.r.Intn(20))
		}
		h.s, code = server.Open(h.d)
	}
	h.d.Arm(0)
	h.epoch = h.s.Epoch()
	news := 0
	for _, k := range h.s.Kept() {
		if r := (request{k.Client, k.Seq}); h.done[r] == nil {
			h.finds(r, k.Data)
			news++
		}
	}
	is(h.t, "at most one came through", news <= 1, true)
	h.looks()
}

// comes: what the answer to a datagram must be, if its request was done.
func (h *history) comes(b []byte) {
	h.t.Helper()
	list := h.s.Receive(b)
	h.hear(list)
	r, code := msg.DecodeRequest(b)
	if code != api.OK || r.Client >= h.shape.Clients || r.Seq-r.Ack > h.shape.Window {
		none(h.t, "no request", list)
		return
	}
	was := h.done[request{r.Client, r.Seq}]
	switch {
	case r.Seq <= h.marks[r.Client]:
		none(h.t, "passed", list)
	case was != nil:
		is(h.t, "the kept reply", samePackets(list, []api.Packet{{To: r.Client, Data: was}}), true)
	default:
		for _, p := range list {
			_, ok := executed(h.t, p.Data)
			is(h.t, "an answer to what was not done", ok, false)
		}
	}
}

// TestP15_9Once: whatever comes, and whenever the power fails: at most one request of a client and seq is done; it is answered with its reply while that is kept, and not at all when it is passed.
func TestP15_9Once(t *testing.T) {
	for i, shape := range shapes() {
		for seed := range int64(8) {
			t.Run(fmt.Sprint(i, seed), func(t *testing.T) {
				t.Parallel()
				h := historyOf(t, shape, 1000*int64(i)+seed)
				for range 300 {
					if h.s.Up() {
						h.comes(h.datagram())
					}
					if h.s.Up() && h.r.Intn(2) == 0 {
						h.steps()
					}
					if h.r.Intn(12) == 0 && h.d.Power() {
						h.d.Arm(1 + h.r.Intn(30))
					}
					if !h.s.Up() || h.r.Intn(60) == 0 {
						h.crashes()
					}
				}
			})
		}
	}
}

// TestP15_9Again: one request, again and again, over boots, till its client has passed it.
func TestP15_9Again(t *testing.T) {
	s, d := up(t, wide)
	r := create(from(0, 1, 0, 1), 256, "a")
	comes(t, s, r)
	out := step(t, s)
	for range 5 {
		is(t, "again", samePackets(s.Receive(datagram(t, r)), out), true)
		none(t, "nothing waits", step(t, s))
		_, inodes := s.Usage()
		is(t, "inodes", inodes, 2)
		d.Crash(nil)
		s = openOn(t, d)
	}
	does(t, s, lookup(from(0, 2, 1, 0), "/"))
	for range 5 {
		still(t, "passed", s, datagram(t, r))
		d.Crash(nil)
		s = openOn(t, d)
	}
}
