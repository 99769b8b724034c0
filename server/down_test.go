package server_test

import (
	"bytes"
	"encoding/binary"
	"testing"

	"annex/api"
	"annex/device"
	"annex/server"
)

// isDown: what a server that is down answers, however often it is asked, and that it asks its device for nothing.
func isDown(t *testing.T, s *server.Server, d *device.Device, shape api.Shape, epoch int) {
	t.Helper()
	image, pending := d.Durable(), d.Pending()
	for range 3 {
		is(t, "Up", s.Up(), false)
		is(t, "Shape", s.Shape(), shape)
		is(t, "Epoch", s.Epoch(), epoch)
		is(t, "Waits", len(s.Waits()), 0)
		is(t, "Marks", len(s.Marks()), 0)
		is(t, "Kept", len(s.Kept()), 0)
		size, inodes := s.Usage()
		is(t, "Usage", [2]int{size, inodes}, [2]int{})
		list, code := s.Step()
		is(t, "Step", code, api.ErrDown)
		none(t, "Step", list)
		none(t, "Receive", s.Receive(datagram(t, lookup(from(0, 1, 0, 0), "/"))))
		none(t, "Receive", s.Receive(datagram(t, getattr(from(0, 1, 0, 99), 256))))
		none(t, "Receive", s.Receive(nil))
	}
	is(t, "what lasts", bytes.Equal(d.Durable(), image), true)
	is(t, "what pends", samePending(d.Pending(), pending), true)
}

// asks are the calls that ask the device, but for Step.
func asks(t *testing.T) map[string]func(s *server.Server) {
	return map[string]func(s *server.Server){
		"a request":        func(s *server.Server) { none(t, "Receive", s.Receive(datagram(t, lookup(from(0, 2, 0, 0), "/")))) },
		"another epoch's":  func(s *server.Server) { none(t, "Receive", s.Receive(datagram(t, getattr(from(0, 2, 0, 9), 256)))) },
		"one that waits":   func(s *server.Server) { none(t, "Receive", s.Receive(datagram(t, lookup(from(1, 1, 0, 0), "/")))) },
		"one that is kept": func(s *server.Server) { none(t, "Receive", s.Receive(datagram(t, lookup(from(0, 1, 0, 0), "/")))) },
		"Marks":            func(s *server.Server) { is(t, "Marks", len(s.Marks()), 0) },
		"Kept":             func(s *server.Server) { is(t, "Kept", len(s.Kept()), 0) },
		"Usage": func(s *server.Server) {
			size, inodes := s.Usage()
			is(t, "Usage", [2]int{size, inodes}, [2]int{})
		},
	}
}

// busy is a server of which one reply is kept, and for which one request waits.
func busy(t *testing.T) (*server.Server, *device.Device) {
	t.Helper()
	s, d := up(t, example)
	does(t, s, lookup(from(0, 1, 0, 0), "/"))
	comes(t, s, lookup(from(1, 1, 0, 0), "/"))
	return s, d
}

// TestP15_3PowerIsMet: whoever asks the device first finds the power off, and the server is down.
func TestP15_3PowerIsMet(t *testing.T) {
	for what, ask := range asks(t) {
		t.Run(what, func(t *testing.T) {
			s, d := busy(t)
			off(t, d)
			is(t, "Up", s.Up(), true)
			ask(s)
			isDown(t, s, d, example, 1)
			d.Crash(nil)
			is(t, "down for good", s.Up(), false)
		})
	}
	s, d := busy(t)
	off(t, d)
	list, code := s.Step()
	is(t, "Step", code, api.ErrPower)
	none(t, "Step", list)
	isDown(t, s, d, example, 1)
}

// TestP15_3PowerIsNotMet: what asks the device for nothing does not find out.
func TestP15_3PowerIsNotMet(t *testing.T) {
	s, d := up(t, example)
	off(t, d)
	for range 2 {
		still(t, "nothing", s, nil)
		still(t, "no request", s, []byte("junk"))
		still(t, "no client", s, datagram(t, lookup(from(2, 1, 0, 0), "/")))
		still(t, "too far from its ack", s, datagram(t, lookup(from(0, 3, 0, 0), "/")))
		none(t, "nothing waits", step(t, s))
		is(t, "Waits", len(s.Waits()), 2)
		is(t, "Up", s.Up(), true)
	}
}

// TestP15_3PowerInStep: the power fails at any write or flush of a Step.
func TestP15_3PowerInStep(t *testing.T) {
	for k := 1; ; k++ {
		s, d := busy(t)
		comes(t, s, create(from(0, 2, 1, 1), 256, "a"))
		step(t, s) // of client 1
		is(t, "Arm", d.Arm(k), api.OK)
		list, code := s.Step()
		if code == api.OK {
			is(t, "operations of a Step", k > 10, true)
			break
		}
		is(t, "Step", code, api.ErrPower)
		none(t, "Step", list)
		isDown(t, s, d, example, 1)
	}
}

// record is the record of an inode.
func record(generation, kind, size int) []byte {
	b := make([]byte, 128)
	binary.BigEndian.PutUint64(b, uint64(generation))
	binary.BigEndian.PutUint32(b[8:], uint32(kind))
	binary.BigEndian.PutUint32(b[12:], uint32(size))
	return b
}

// bent is an image of the examples' shape in which some bytes of a block are others.
func bent(t *testing.T, block, at int, data []byte) []byte {
	t.Helper()
	image := imageOf(t, example)
	copy(image[512*block+at:], data)
	return image
}

// TestP15_3StepMeets: an error from below, of a device laid by hand, is Step's answer once.
func TestP15_3StepMeets(t *testing.T) {
	l := layoutOf(t, example)
	jammed := bent(t, l.Ledger, 8, []byte{0x80}) // both slots are client 1's, whose watermark is bent: only who wants room asks for it
	copy(jammed[512*(l.Ledger+1):], slot(1, 3, 7, 1))
	copy(jammed[512*(l.Ledger+4):], slot(1, 3, 8, 1))
	for what, c := range map[string]struct {
		image []byte
		r     api.Request
		code  api.Errno
	}{
		"no root":                  {bent(t, l.Table, 0, record(1, 0, 0)), getattr(from(0, 1, 0, 1), 256), api.ErrTree},
		"a root that is a file":    {bent(t, l.Table, 0, record(1, 1, 0)), lookup(from(0, 1, 0, 0), "/"), api.ErrTree},
		"a record":                 {bent(t, l.Table, 0, record(1, 3, 0)), getattr(from(0, 1, 0, 1), 256), api.ErrRecord},
		"entries that may not be":  {bent(t, l.Table, 0, record(1, 2, 32)), lookup(from(0, 1, 0, 0), "/a"), api.ErrDirBent},
		"no reply has such a size": {bent(t, l.Table, 0, record(1, 2, 33)), getattr(from(0, 1, 0, 1), 256), api.ErrField},
		"no room in the ledger":    {jammed, lookup(from(0, 1, 0, 0), "/"), api.ErrLedger},
		"no stamp left":            {with(imageOf(t, example), l.Journal, head(last, 4)), lookup(from(0, 1, 0, 0), "/a"), api.ErrSeqs},
	} {
		t.Run(what, func(t *testing.T) {
			d := deviceOf(t, c.image)
			s := openOn(t, d)
			comes(t, s, c.r)
			image := d.Durable()
			list, code := s.Step()
			is(t, "Step", code, c.code)
			none(t, "Step", list)
			is(t, "what lasts", bytes.Equal(d.Durable(), image), true)
			isDown(t, s, d, example, 1)
			_, code = server.Open(d)
			is(t, "the device may be opened anew", code == api.OK, what != "no stamp left")
		})
	}
}

// slot is what stands ahead of a kept reply.
func slot(client, length, seq, stamp int) []byte {
	b := make([]byte, 24)
	binary.BigEndian.PutUint32(b, uint32(client))
	binary.BigEndian.PutUint32(b[4:], uint32(length))
	binary.BigEndian.PutUint64(b[8:], uint64(seq))
	binary.BigEndian.PutUint64(b[16:], uint64(stamp))
	return b
}

// TestP15_3ReceiveMeets: a ledger laid by hand: a watermark that is bent is met by its own client alone, a slot by whoever looks behind it.
func TestP15_3ReceiveMeets(t *testing.T) {
	l := layoutOf(t, example)
	mark := bent(t, l.Ledger, 8, []byte{0x80}) // client 1's
	d := deviceOf(t, mark)
	s := openOn(t, d)
	comes(t, s, lookup(from(0, 1, 0, 0), "/"))
	is(t, "Step", one(t, "Step", step(t, s), 0).Status, api.OK)
	none(t, "Receive", s.Receive(datagram(t, lookup(from(1, 1, 0, 0), "/"))))
	isDown(t, s, d, example, 1)

	image := bent(t, l.Ledger+4, 0, slot(2, 1, 1, 1)) // slot 1 has a client that is none
	copy(image[512*(l.Ledger+1):], append(slot(0, 3, 7, 1), "abc"...))
	d = deviceOf(t, image)
	s = openOn(t, d)
	list := s.Receive(datagram(t, lookup(from(0, 7, 6, 0), "/")))
	is(t, "found ahead of it", len(list) == 1 && list[0].To == 0 && string(list[0].Data) == "abc", true)
	is(t, "Up", s.Up(), true)
	none(t, "Receive", s.Receive(datagram(t, lookup(from(0, 8, 7, 0), "/"))))
	isDown(t, s, d, example, 1)
}

// TestP15_3LooksMeet: of the looks just those meet an error that ask for what is bent.
func TestP15_3LooksMeet(t *testing.T) {
	l := layoutOf(t, example)
	for what, c := range map[string]struct {
		image []byte
		falls string
	}{
		"a watermark":             {bent(t, l.Ledger, 8, []byte{0xff}), "Marks"},
		"a slot":                  {bent(t, l.Ledger+4, 0, slot(0, 0, 1, 1)), "Kept"},
		"a record":                {bent(t, l.Table, 384, record(1, 3, 0)), "Usage"},
		"a watermark of no one's": {bent(t, l.Ledger, 16, []byte{0xff}), ""},
		"a record of no one's":    {bent(t, l.Table+1, 0, record(1, 3, 0)), ""},
	} {
		for look, ask := range map[string]func(s *server.Server){
			"Marks": func(s *server.Server) { s.Marks() },
			"Kept":  func(s *server.Server) { s.Kept() },
			"Usage": func(s *server.Server) { s.Usage() },
		} {
			t.Run(what+" "+look, func(t *testing.T) {
				d := deviceOf(t, c.image)
				s := openOn(t, d)
				ask(s)
				is(t, "Up", s.Up(), look != c.falls)
				if look == c.falls {
					isDown(t, s, d, example, 1)
				}
				s = openOn(t, d)
				if look == c.falls {
					asks(t)[look](s) // with the error nothing is told
				}
			})
		}
	}
}

// TestP15_3OneError: Step tells the error just once, and only if it was a Step that met it.
func TestP15_3OneError(t *testing.T) {
	l := layoutOf(t, example)
	d := deviceOf(t, bent(t, l.Table, 0, record(1, 3, 0)))
	s := openOn(t, d)
	comes(t, s, getattr(from(0, 1, 0, 1), 256))
	s.Usage()
	_, code := s.Step()
	is(t, "Step", code, api.ErrDown)
}
