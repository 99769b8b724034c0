package device

import "annex/api"

// The methods here are for calls that hold the lock: they do not take it again.

func canBe(blocks int) bool { return 1 <= blocks && blocks <= api.MaxBlocks }

func holding(lasting []byte) *Device {
	return &Device{lasting: lasting, newest: map[int][]byte{}}
}

// copied has no spare room: nothing that is appended to it comes where another one could see it.
func copied(data []byte) []byte {
	out := make([]byte, len(data))
	copy(out, data)
	return out
}

func (d *Device) blocks() int { return len(d.lasting) / api.BlockSize }

func (d *Device) has(b int) bool { return 0 <= b && b < d.blocks() }

// block is the place of a block's lasting bytes, not a copy.
func (d *Device) block(b int) []byte {
	return d.lasting[b*api.BlockSize : (b+1)*api.BlockSize]
}

// burn counts a Write or a Flush; the one that the fuse was set for meets the power off already.
func (d *Device) burn() {
	if d.fuse == 0 {
		return
	}
	if d.fuse--; d.fuse == 0 {
		d.off = true
	}
}

// pend may let the list and the map share data: neither of them ever changes it.
func (d *Device) pend(b int, data []byte) {
	d.pending = append(d.pending, api.Pending{Block: b, Data: data})
	d.newest[b] = data
}

func (d *Device) last(p api.Pending) { copy(d.block(p.Block), p.Data) }

// forget ends all pending, of what lasts by now and of what is lost.
func (d *Device) forget() {
	for _, p := range d.pending {
		delete(d.newest, p.Block)
	}
	d.pending = nil
}
