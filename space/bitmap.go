package space

import (
	"annex/api"
	"annex/journal"
	"annex/plan"
)

const bitsAByte = 8

// none is the place of no data block.
const none = -1

// bitmap is what a transaction sees of it, read for one call. Its data blocks are named by their places, from 0 on.
type bitmap struct {
	tx     *journal.Tx
	layout api.Layout
	bytes  []byte
}

func read(t *journal.Tx, l api.Layout) (bitmap, api.Errno) {
	if !planned(l) {
		return bitmap{}, api.ErrShape
	}
	return seen(t, l)
}

// readFor tells the place of the block b too.
func readFor(t *journal.Tx, l api.Layout, b int) (bitmap, int, api.Errno) {
	if !planned(l) {
		return bitmap{}, 0, api.ErrShape
	}
	if b < l.Data || b >= l.Data+l.DataLen {
		return bitmap{}, 0, api.ErrNoData
	}
	m, code := seen(t, l)
	return m, b - l.Data, code
}

// planned asks for the error too: the layout of zeros stands beside one.
func planned(l api.Layout) bool {
	right, code := plan.Plan(l.Shape)
	return code == api.OK && right == l
}

// seen is for a layout that was planned.
func seen(t *journal.Tx, l api.Layout) (bitmap, api.Errno) {
	if t == nil { // what Begin answers where there is none: it is not open
		return bitmap{}, api.ErrEnded
	}
	m := bitmap{tx: t, layout: l}
	for n := range l.BitsLen {
		block, code := t.Read(l.Bits + n)
		if code != api.OK {
			return bitmap{}, code
		}
		m.bytes = append(m.bytes, block...)
	}
	return m, api.OK
}

func (m bitmap) has(i int) bool {
	return m.bytes[i/bitsAByte]&(1<<(i%bitsAByte)) != 0
}

// lowest is the first place that is not in use, or none.
func (m bitmap) lowest() int {
	found := none
search:
	for at := range m.length() {
		for bit := range m.bitsAt(at) {
			if i := at*bitsAByte + bit; !m.has(i) {
				found = i
				break search
			}
		}
	}
	return found
}

func (m bitmap) used() int {
	many := 0
	for at := range m.length() {
		for bit := range m.bitsAt(at) {
			if m.has(at*bitsAByte + bit) {
				many++
			}
		}
	}
	return many
}

// length counts the bytes that have bits of data blocks.
func (m bitmap) length() int {
	return (m.layout.DataLen + bitsAByte - 1) / bitsAByte
}

// bitsAt keeps those who look from the bits behind the data blocks' in the last byte.
func (m bitmap) bitsAt(at int) int {
	return min(bitsAByte, m.layout.DataLen-at*bitsAByte)
}

// turn lets i be in use if it was not, and the other way round; the other blocks of the bitmap are not written.
func (m bitmap) turn(i int) api.Errno {
	m.bytes[i/bitsAByte] ^= 1 << (i % bitsAByte)
	n := i / bitsAByte / api.BlockSize
	return m.tx.Write(m.layout.Bits+n, m.bytes[n*api.BlockSize:(n+1)*api.BlockSize])
}
