package server_test

import (
	"bytes"
	"slices"
	"testing"

	"annex/api"
	"annex/device"
	"annex/server"
)

// examples leads a server through the chapter's examples, up to the MKDIR that waits.
func examples(t *testing.T) (*server.Server, *device.Device) {
	t.Helper()
	s, d := up(t, example)
	is(t, "Epoch", s.Epoch(), 1)
	is(t, "Marks", slices.Equal(s.Marks(), []int{0, 0}), true)
	is(t, "Kept", len(s.Kept()), 0)
	size, inodes := s.Usage()
	is(t, "Usage", [2]int{size, inodes}, [2]int{0, 1})

	look := lookup(from(0, 1, 0, 0), "/")
	none(t, "LOOKUP", s.Receive(datagram(t, look)))
	is(t, "Waits", slices.Equal(s.Waits(), []int{1, 0}), true)
	first := step(t, s)
	p := one(t, "LOOKUP", first, 0)
	is(t, "LOOKUP", [3]int{p.Seq, p.Epoch, p.Attr.Id}, [3]int{1, 1, 256})
	is(t, "the same again", samePackets(s.Receive(datagram(t, look)), first), true)

	get := getattr(from(0, 2, 1, 0), 256)
	refused(t, "another epoch", s.Receive(datagram(t, get)), get, 1, api.ErrEpoch)
	make1 := create(from(0, 2, 1, 1), 256, "a")
	none(t, "CREATE", s.Receive(datagram(t, make1)))
	none(t, "CREATE again", s.Receive(datagram(t, make1)))
	get = getattr(from(0, 3, 1, 1), 256)
	refused(t, "one place", s.Receive(datagram(t, get)), get, 1, api.ErrBusy)
	is(t, "CREATE", one(t, "CREATE", step(t, s), 0).Attr.Id, 257)
	is(t, "Marks", slices.Equal(s.Marks(), []int{1, 0}), true)
	kept := s.Kept()
	is(t, "how many are kept", len(kept), 2)
	is(t, "the first", kept[0].Seq, 1)
	is(t, "the first", bytes.Equal(kept[0].Data, first[0].Data), true)
	is(t, "the second", kept[1].Seq, 2)
	none(t, "at the watermark", s.Receive(datagram(t, look)))
	none(t, "too far from its ack", s.Receive(datagram(t, getattr(from(0, 4, 1, 1), 256))))
	is(t, "Waits", slices.Equal(s.Waits(), []int{0, 0}), true)
	comes(t, s, mkdir(from(1, 1, 0, 1), 256, "d"))
	return s, d
}

// TestP15_5Examples: the chapter's, without a power loss at their end.
func TestP15_5Examples(t *testing.T) {
	s, _ := examples(t)
	p := one(t, "MKDIR", step(t, s), 1)
	is(t, "MKDIR", p.Attr, api.Attr{Id: 258, Kind: api.Dir, Size: 0, Change: 5})
}

// TestP15_10Example: the power fails at the last Flush of the commit; whether the commit block survives, decides.
func TestP15_10Example(t *testing.T) {
	ops := 0
	for {
		s, d := examples(t)
		d.Arm(ops + 1)
		if _, code := s.Step(); code == api.OK {
			break
		}
		ops++
	}
	for _, survives := range []bool{false, true} {
		s, d := examples(t)
		d.Arm(ops)
		list, code := s.Step()
		is(t, "Step", code, api.ErrPower)
		none(t, "Step", list)
		is(t, "what pends: the commit block", len(d.Pending()), 1)
		d.Crash([]bool{survives})
		s = openOn(t, d)
		is(t, "Epoch", s.Epoch(), 2)
		list = s.Receive(datagram(t, mkdir(from(1, 1, 0, 1), 256, "d")))
		if !survives {
			refused(t, "MKDIR", list, mkdir(from(1, 1, 0, 1), 256, "d"), 2, api.ErrEpoch)
			continue
		}
		p := one(t, "MKDIR", list, 1)
		is(t, "MKDIR", p.Attr, api.Attr{Id: 258, Kind: api.Dir, Size: 0, Change: 5})
		is(t, "the epoch that made it", p.Epoch, 1)
	}
}
