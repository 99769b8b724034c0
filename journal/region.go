package journal

import (
	"annex/api"
	"annex/device"
)

// region is the blocks of a journal on its device: the head, and the log.
type region struct {
	device      *device.Device
	start, size int
}

// The least log has room for the greatest transaction, with its descriptor and its commit.
const leastSize = 1 + api.MaxTx + 2

// fits takes the start from the device's blocks, as start + size may be above all numbers.
func (r region) fits() bool {
	return r.device != nil && r.start >= 0 && r.size >= leastSize && r.size <= r.device.Size()-r.start
}

func (r region) places() int { return r.size - 1 }

// at is the block of a place; the places go round.
func (r region) at(place int) int { return r.start + 1 + place%r.places() }

func (r region) outside(b int) bool {
	return 0 <= b && b < r.device.Size() && (b < r.start || b >= r.start+r.size)
}

// copied has no spare room: nothing that is appended to it comes where another one could see it.
func copied(data []byte) []byte {
	out := make([]byte, len(data))
	copy(out, data)
	return out
}
