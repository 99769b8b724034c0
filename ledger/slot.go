package ledger

import (
	"bytes"
	"slices"

	"annex/api"
	"annex/bits"
	"annex/journal"
)

const (
	slotBlocks = 3
	headSize   = 24 // bytes of a slot ahead of the reply
)

// request is what a reply answers; no two slots are to have the same one.
type request struct{ client, seq int }

// slot is what stands ahead of the reply. Of an empty one nothing is taken over: all its numbers are 0.
type slot struct {
	request
	length, stamp int
}

func (s slot) isEmpty() bool { return s == slot{} }

func isSeq(n int) bool { return n >= 1 && n <= api.MaxNumber }

func isReply(b []byte) bool { return len(b) >= 1 && len(b) <= api.MaxDatagram }

func firstBlock(l api.Layout, i int) int { return l.Ledger + 1 + slotBlocks*i }

// slots are all of them, the empty ones too: a slot's number is its place in the list.
func slots(t *journal.Tx, l api.Layout) ([]slot, api.Errno) {
	var list []slot
	for i := range l.Shape.Cache {
		s, code := slotAt(t, l, i)
		if code != api.OK {
			return nil, code
		}
		list = append(list, s)
	}
	return list, api.OK
}

func slotAt(t *journal.Tx, l api.Layout, i int) (slot, api.Errno) {
	block, code := read(t, firstBlock(l, i))
	if code != api.OK {
		return slot{}, code
	}
	return slotOf(l, block[:headSize])
}

func slotOf(l api.Layout, head []byte) (slot, api.Errno) {
	if bits.NewReader(head[8:16]).Sum() == 0 {
		return slot{}, api.OK
	}
	var s slot
	r := bits.NewReader(head)
	s.client = r.U32(clients(l) - 1)
	s.length = r.U32(api.MaxDatagram)
	s.seq = r.U64(api.MaxNumber)
	s.stamp = r.U64(api.MaxNumber)
	if r.Close() != api.OK || s.length < 1 || s.stamp < 1 {
		return slot{}, api.ErrLedger
	}
	return s, api.OK
}

// replyIn reads as many blocks as the reply has: what stands behind it is nobody's business.
func replyIn(t *journal.Tx, l api.Layout, i int, s slot) ([]byte, api.Errno) {
	var all []byte
	end := headSize + s.length
	for at := firstBlock(l, i); len(all) < end; at++ {
		block, code := read(t, at)
		if code != api.OK {
			return nil, code
		}
		all = append(all, block...)
	}
	return bytes.Clone(all[headSize:end]), api.OK
}

// room is the slot that a new reply takes.
func room(list []slot, marks watermarks) (int, api.Errno) {
	if i := slices.IndexFunc(list, slot.isEmpty); i >= 0 {
		return i, api.OK
	}
	oldest := -1
	for i, s := range list {
		mark, code := marks.of(s.client)
		if code != api.OK {
			return 0, code
		}
		if s.seq <= mark && (oldest < 0 || s.stamp < list[oldest].stamp) {
			oldest = i
		}
	}
	if oldest < 0 {
		return 0, api.ErrCacheFull
	}
	return oldest, api.OK
}

// lay writes all three blocks, whatever the reply's length: nothing of the reply that was there stays.
func lay(t *journal.Tx, l api.Layout, i int, r request, b []byte) api.Errno {
	whole := make([]byte, slotBlocks*api.BlockSize)
	copy(whole, headOf(r, len(b), t.Seq()))
	copy(whole[headSize:], b)
	for n := range slotBlocks {
		block := whole[n*api.BlockSize : (n+1)*api.BlockSize]
		if code := t.Write(firstBlock(l, i)+n, block); code != api.OK {
			return code
		}
	}
	return api.OK
}

func headOf(r request, length, stamp int) []byte {
	b := bits.Put32(nil, r.client)
	b = bits.Put32(b, length)
	b = bits.Put64(b, r.seq)
	return bits.Put64(b, stamp)
}
