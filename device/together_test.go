package device_test

import (
	"bytes"
	"slices"
	"sync"
	"testing"

	"annex/api"
	"annex/device"
)

// whole tells whether each block of some bytes is full of one byte.
func whole(data []byte) bool {
	for at := 0; at < len(data); at += 512 {
		for _, x := range data[at : at+512] {
			if x != data[at] {
				return false
			}
		}
	}
	return true
}

// TestP5_12EachCallIsDoneWhole: hands that write, flush and crash, and others that look: no one sees a piece of a block.
func TestP5_12EachCallIsDoneWhole(t *testing.T) {
	d := device.New(4)
	var hands sync.WaitGroup
	for i := range 4 {
		hands.Go(func() {
			for k := range 300 {
				d.Write((i+k)%4, full(byte(k)))
				if k%7 == i {
					d.Flush()
				}
				if k%31 == i {
					d.Arm(k % 3)
				}
				if k%13 == i {
					d.Crash([]bool{true, false, true})
				}
			}
		})
		hands.Go(func() { look(t, d) })
	}
	hands.Wait()
}

func look(t *testing.T, d *device.Device) {
	for k := range 300 {
		data, e := d.Read(k % 4)
		if e == api.OK && (len(data) != 512 || !whole(data)) || e != api.OK && (data != nil || e != api.ErrPower) {
			t.Errorf("Read answers %s, %d", short(string(data)), e)
		}
		if all := d.Durable(); len(all) != 2048 || !whole(all) {
			t.Errorf("Durable answers %s", short(string(all)))
		}
		for _, p := range d.Pending() {
			if p.Block < 0 || p.Block > 3 || len(p.Data) != 512 || !whole(p.Data) {
				t.Errorf("Pending has (%d, %s)", p.Block, short(string(p.Data)))
			}
		}
		d.Power()
		if d.Size() != 4 {
			t.Errorf("Size is %d", d.Size())
		}
	}
}

// TestP5_12FlushIsSeenWhole: what a Flush or a Crash makes last, it makes last at once: of blocks that are always written together none is seen ahead of the others in what lasts.
func TestP5_12FlushIsSeenWhole(t *testing.T) {
	const blocks = 64
	d := device.New(blocks)
	done := make(chan bool)
	go func() {
		defer close(done)
		for k := range 200 {
			for b := range blocks {
				d.Write(b, full(byte(k)))
			}
			if k%2 == 0 {
				d.Flush()
			} else {
				d.Crash(slices.Repeat([]bool{true}, blocks))
			}
		}
	}()
	for {
		all := d.Durable()
		if !bytes.Equal(all, bytes.Repeat(all[:1], len(all))) {
			t.Fatalf("Durable shows a piece of a Flush or a Crash: %s", short(string(all)))
		}
		select {
		case <-done:
			return
		default:
		}
	}
}

// TestP5_12OneCallMeetsTheFailing: of the calls that many hands make, just those ahead of the k-th go well, and what went well pends, each in the order of its own hand.
func TestP5_12OneCallMeetsTheFailing(t *testing.T) {
	const hands, each = 8, 50
	for _, k := range []int{1, 2, 100, 399, 400, 401} {
		d := device.New(hands)
		d.Arm(k)
		var all sync.WaitGroup
		fine := make([]int, hands)
		for i := range hands {
			all.Go(func() {
				for n := range each {
					if d.Write(i, full(byte(n))) == api.OK {
						fine[i]++
					}
				}
			})
		}
		all.Wait()
		sum := 0
		for _, n := range fine {
			sum += n
		}
		if want := min(k-1, hands*each); sum != want || d.Power() != (k > hands*each) {
			t.Errorf("Arm(%d): %d Writes went well, want %d; the power is on: %v", k, sum, want, d.Power())
		}
		seen := make([]int, hands)
		for _, p := range d.Pending() {
			if int(p.Data[0]) != seen[p.Block] {
				t.Errorf("Arm(%d): of block %d the write %d pends where %d is the next one", k, p.Block, p.Data[0], seen[p.Block])
			}
			seen[p.Block]++
		}
		if !slices.Equal(seen, fine) {
			t.Errorf("Arm(%d): %v pend, %v went well", k, seen, fine)
		}
	}
}
