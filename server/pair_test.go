package server_test

import (
	"bytes"
	"slices"
	"testing"

	"annex/api"
	"annex/device"
	"annex/server"
)

// pair is two devices that hold the same: over the one stands a server, over the other the second telling.
type pair struct {
	t *testing.T
	d *device.Device
	s *server.Server
	w *told
}

// pairOf boots both.
func pairOf(t *testing.T, image []byte) (*pair, api.Errno) {
	t.Helper()
	p := &pair{t: t, d: deviceOf(t, image), w: &told{d: deviceOf(t, image)}}
	return p, p.boot()
}

func (p *pair) boot() api.Errno {
	p.t.Helper()
	s, code := server.Open(p.d)
	w, want := tellOpen(p.w.d)
	is(p.t, "Open", code, want)
	is(p.t, "a server", s != nil, want == api.OK)
	if code != api.OK {
		w = &told{d: p.w.d, down: true}
	}
	p.s, p.w = s, w
	p.same("Open")
	return code
}

// same: nobody can tell the two apart, by what stands on the devices and by the looks that ask nothing.
func (p *pair) same(what string) {
	p.t.Helper()
	is(p.t, what+": the power", p.d.Power(), p.w.d.Power())
	is(p.t, what+": what lasts", bytes.Equal(p.d.Durable(), p.w.d.Durable()), true)
	is(p.t, what+": what pends", samePending(p.d.Pending(), p.w.d.Pending()), true)
	if p.s == nil {
		return
	}
	is(p.t, what+": Up", p.s.Up(), !p.w.down)
	is(p.t, what+": Shape", p.s.Shape(), p.w.l.Shape)
	is(p.t, what+": Epoch", p.s.Epoch(), p.w.epoch)
	if got, want := p.s.Waits(), p.w.many(); !slices.Equal(got, want) {
		p.t.Fatalf("%s: Waits %v, want %v", what, got, want)
	}
}

func (p *pair) receive(b []byte) []api.Packet {
	p.t.Helper()
	got, want := p.s.Receive(b), p.w.receive(b)
	if !samePackets(got, want) {
		p.t.Fatalf("Receive: %v, want %v", got, want)
	}
	p.same("Receive")
	return got
}

func (p *pair) step() ([]api.Packet, api.Errno) {
	p.t.Helper()
	got, code := p.s.Step()
	want, wants := p.w.step()
	is(p.t, "Step", code, wants)
	if !samePackets(got, want) {
		p.t.Fatalf("Step: %v, want %v", got, want)
	}
	p.same("Step")
	return got, code
}

// look is one of the looks that ask the device.
func (p *pair) look(which int) {
	p.t.Helper()
	switch which % 3 {
	case 0:
		if got, want := p.s.Marks(), p.w.marks(); !slices.Equal(got, want) {
			p.t.Fatalf("Marks: %v, want %v", got, want)
		}
	case 1:
		if got, want := p.s.Kept(), p.w.kept(); !sameKept(got, want) {
			p.t.Fatalf("Kept: %v, want %v", got, want)
		}
	case 2:
		size, inodes := p.s.Usage()
		size2, inodes2 := p.w.usage()
		is(p.t, "Usage", [2]int{size, inodes}, [2]int{size2, inodes2})
	}
	p.same("a look")
}

func (p *pair) arm(k int) {
	p.t.Helper()
	is(p.t, "Arm", p.d.Arm(k), p.w.d.Arm(k))
}

func (p *pair) crash(keep []bool) {
	p.t.Helper()
	p.d.Crash(keep)
	p.w.d.Crash(keep)
}
