package server_test

import (
	"bytes"
	"encoding/binary"
	"fmt"
	"slices"
	"testing"

	"annex/api"
	"annex/device"
	"annex/journal"
	"annex/plan"
	"annex/server"
	"annex/sum"
)

// head is a journal's head.
func head(seq uint64, place uint32) []byte {
	b := make([]byte, 512)
	copy(b, "ANXH")
	binary.BigEndian.PutUint64(b[8:], seq)
	binary.BigEndian.PutUint32(b[16:], place)
	binary.BigEndian.PutUint64(b[20:], sum.Sum(b[:20]))
	return b
}

// with is an image in which a block is another one.
func with(image []byte, b int, data []byte) []byte {
	out := bytes.Clone(image)
	copy(out[512*b:512*b+512], data)
	return out
}

// opens is for an Open that is to end so.
func opens(t *testing.T, what string, image []byte, want api.Errno) *device.Device {
	t.Helper()
	d := deviceOf(t, image)
	s, code := server.Open(d)
	is(t, what, code, want)
	is(t, what+": a server", s != nil, want == api.OK)
	return d
}

// TestP15_2Boots: each boot has the next epoch, and nothing waits.
func TestP15_2Boots(t *testing.T) {
	for _, shape := range append(shapes(), extremes()...) {
		d := deviceOf(t, imageOf(t, shape))
		for epoch := 1; epoch <= 40; epoch++ { // longer than a log is
			s := openOn(t, d)
			is(t, "Up", s.Up(), true)
			is(t, "Epoch", s.Epoch(), epoch)
			is(t, "Shape", s.Shape(), shape)
			is(t, "Waits", slices.Equal(s.Waits(), make([]int, shape.Clients)), true)
			comes(t, s, lookup(from(0, 1, 0, 0), "/"))
		}
	}
}

// TestP15_2OneTransaction: what a boot does on the device: a transaction of one block, and no more.
func TestP15_2OneTransaction(t *testing.T) {
	for k := 1; k <= 6; k++ {
		d := deviceOf(t, imageOf(t, example))
		is(t, "Arm", d.Arm(k), api.OK)
		s, code := server.Open(d)
		is(t, fmt.Sprint("Open with the power failing at ", k), code == api.OK, k == 6)
		is(t, "a server", s != nil, k == 6)
		if k < 6 {
			is(t, "the error", code, api.ErrPower)
		}
	}
	d := deviceOf(t, imageOf(t, example))
	openOn(t, d)
	l := layoutOf(t, example)
	j, taken, code := journal.Open(d, l.Journal, l.JournalLen)
	is(t, "the journal", code, api.OK)
	is(t, "its transactions", taken, 1)
	seq, _, _ := j.State()
	is(t, "the next stamp", seq, 3)
	is(t, "the boot block", bytes.Equal(d.Durable()[512:1024], bootBytes(1)), true)
}

// TestP15_2NoBootBlock: each byte that is another one; epochs that are too great.
func TestP15_2NoBootBlock(t *testing.T) {
	image := imageOf(t, example)
	for i := range 512 {
		for _, flip := range []byte{1, 0x80, 0xff} {
			block := bootBytes(5)
			block[i] ^= flip
			want := api.ErrBoot
			if epoch := binary.BigEndian.Uint64(block[8:]); i >= 8 && i < 16 {
				switch {
				case epoch < last:
					want = api.OK
				case epoch == last:
					want = api.ErrEpochs
				}
			}
			bad := with(image, 1, block)
			d := opens(t, fmt.Sprint("byte ", i), bad, want)
			if want != api.OK {
				is(t, "what lasts", bytes.Equal(d.Durable(), bad), true)
				is(t, "what pends", len(d.Pending()), 0)
			}
		}
	}
	for _, i := range []int{0, 3, 4, 7, 16, 511} {
		block := bootBytes(last) // it is no boot block, so it has no last epoch either
		block[i] ^= 1
		opens(t, fmt.Sprint("the last epoch, byte ", i), with(image, 1, block), api.ErrBoot)
	}
	opens(t, "zeros", with(image, 1, make([]byte, 512)), api.ErrBoot)
	opens(t, "a superblock", with(image, 1, image[:512]), api.ErrBoot)
}

// TestP15_2LastEpoch: the epochs around the last one.
func TestP15_2LastEpoch(t *testing.T) {
	image := imageOf(t, example)
	for _, c := range []struct {
		epoch uint64
		code  api.Errno
	}{{0, 0}, {1, 0}, {last - 2, 0}, {last - 1, 0}, {last, api.ErrEpochs}, {last + 1, api.ErrBoot}, {1<<63 - 1, api.ErrBoot}, {1 << 63, api.ErrBoot}, {1<<64 - 1, api.ErrBoot}} {
		d := opens(t, fmt.Sprint("epoch ", c.epoch), with(image, 1, bootBytes(c.epoch)), c.code)
		if c.epoch == last-1 {
			s, code := server.Open(d)
			is(t, "Open behind the last epoch", code, api.ErrEpochs)
			is(t, "a server", s == nil, true)
		}
	}
	s := openOn(t, deviceOf(t, with(image, 1, bootBytes(last-1))))
	is(t, "Epoch", s.Epoch(), last)
	is(t, "a reply's epoch", does(t, s, getattr(from(0, 1, 0, last), 256)).Epoch, last)
}

// TestP15_2Super: what is wrong with block 0 is told as plan tells it.
func TestP15_2Super(t *testing.T) {
	image := imageOf(t, example)
	opens(t, "zeros", with(image, 0, make([]byte, 512)), api.ErrSuper)
	for i := range 512 {
		block := bytes.Clone(image[:512])
		block[i] ^= 4
		_, want := plan.ReadSuper(block)
		d := opens(t, fmt.Sprint("byte ", i), with(image, 0, block), want)
		is(t, "what lasts", bytes.Equal(d.Durable(), with(image, 0, block)), true)
	}
	ill := bytes.Clone(image[:512])
	binary.BigEndian.PutUint32(ill[4:], 9) // clients
	binary.BigEndian.PutUint64(ill[36:], sum.Sum(ill[:36]))
	opens(t, "a shape that may not be", with(image, 0, ill), api.ErrShape)
	binary.BigEndian.PutUint32(ill[4:], 2)
	binary.BigEndian.PutUint32(ill[28:], 19) // data
	binary.BigEndian.PutUint64(ill[36:], sum.Sum(ill[:36]))
	opens(t, "a shape that does not fit", with(image, 0, ill), api.ErrRoom)
}

// TestP15_2Room: a device with more blocks than the layout has, or fewer.
func TestP15_2Room(t *testing.T) {
	image := imageOf(t, example)
	for more := -57; more <= 60; more++ {
		want := api.ErrRoom
		if more == 0 {
			want = api.OK
		}
		other := make([]byte, len(image)+512*more)
		copy(other, image)
		d := opens(t, fmt.Sprint(more, " blocks more"), other, want)
		if more != 0 {
			is(t, "what lasts", bytes.Equal(d.Durable(), other), true)
		}
	}
}

// TestP15_2Order: of several faults the first one is told.
func TestP15_2Order(t *testing.T) {
	image := imageOf(t, example)
	boots := []struct {
		epoch uint64
		code  api.Errno
	}{{0, api.OK}, {last, api.ErrEpochs}, {last + 1, api.ErrBoot}}
	for bad := range 1 << 5 {
		for _, boot := range boots {
			b, want := with(image, 1, bootBytes(boot.epoch)), boot.code
			if bad&1 != 0 && want == api.OK { // no seq left for the boot's transaction
				b, want = with(b, 2, head(last+1, 4)), api.ErrSeqs
			}
			if bad&2 != 0 {
				b, want = with(b, 2, make([]byte, 512)), api.ErrHeadless
			}
			if bad&4 != 0 {
				b, want = append(b, make([]byte, 512)...), api.ErrRoom
			}
			if bad&8 != 0 {
				b, want = with(b, 0, make([]byte, 512)), api.ErrSuper
			}
			d := deviceOf(t, b)
			if bad&16 != 0 {
				off(t, d)
				want = api.ErrPower
			}
			s, code := server.Open(d)
			is(t, fmt.Sprint("faults ", bad, " epoch ", boot.epoch), code, want)
			is(t, "a server", s != nil, want == api.OK)
		}
	}
}

// TestP15_2LastStamp: the journal's last seq can be the boot's.
func TestP15_2LastStamp(t *testing.T) {
	image := imageOf(t, example)
	opens(t, "the last seq", with(image, 2, head(last, 4)), api.OK)
	d := opens(t, "no seq left", with(image, 2, head(last+1, 4)), api.ErrSeqs)
	is(t, "what lasts", bytes.Equal(d.Durable(), with(image, 2, head(last+1, 4))), true)
}

// TestP15_2AnotherSuper: the shape is the one that block 0 says ahead of the journal's taking up.
func TestP15_2AnotherSuper(t *testing.T) {
	l := layoutOf(t, example)
	other := example
	other.Clients, other.Window, other.Places, other.Quota = 3, 4, 2, 1999
	super, code := plan.Super(other)
	is(t, "Super", code, api.OK)
	d := deviceOf(t, imageOf(t, example))
	j, _, _ := journal.Open(d, l.Journal, l.JournalLen)
	x := j.Begin()
	x.Write(0, super)
	x.Write(1, bootBytes(7))
	is(t, "Commit", x.Commit(), api.OK)
	s := openOn(t, d)
	is(t, "Shape", s.Shape(), example)
	is(t, "Epoch", s.Epoch(), 8) // the boot block is read through the journal
	is(t, "clients", len(s.Waits()), 2)
	none(t, "of a third client", s.Receive(datagram(t, lookup(from(2, 1, 0, 0), "/"))))
	is(t, "nothing waits", slices.Equal(s.Waits(), []int{0, 0}), true)
	s = openOn(t, d)
	is(t, "Shape", s.Shape(), other)
	is(t, "Epoch", s.Epoch(), 9)
	comes(t, s, lookup(from(2, 1, 0, 0), "/"))
}

// TestP15_2TakesUp: what stands in the log alone is there behind the boot.
func TestP15_2TakesUp(t *testing.T) {
	for many := range 9 {
		s, d := up(t, shapes()[2])
		for seq := 1; seq <= many; seq++ {
			does(t, s, create(from(0, seq, seq-1, 1), 256, string(rune('a'+seq))))
		}
		marks, kept := s.Marks(), s.Kept()
		_, inodes := s.Usage()
		s = openOn(t, deviceOf(t, d.Durable()))
		is(t, "Marks", slices.Equal(s.Marks(), marks), true)
		is(t, "Kept", sameKept(s.Kept(), kept), true)
		_, now := s.Usage()
		is(t, "inodes", now, inodes)
		is(t, "inodes", now, 1+min(many, 5))
	}
}

// TestP15_2NoDevice: a device that is none has no block 0.
func TestP15_2NoDevice(t *testing.T) {
	s, code := server.Open(device.New(0))
	is(t, "Open", code, api.ErrBlock)
	is(t, "a server", s == nil, true)
}
