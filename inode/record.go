package inode

import (
	"math"

	"annex/api"
	"annex/bits"
)

const (
	recordSize = 128
	restSize   = 68 // zeros at the end
	wide       = 8  // bytes of a great number
	narrow     = 4  // bytes of a small one
)

// free is the kind of no inode.
const free = 0

// tooGreat stands for a number that no int can hold: no field may be below 0.
const tooGreat = -1

// record is what a slot holds on the device.
type record [recordSize]byte

// The pieces end where their fields end, their room too: what is laid into one can't reach the next one.
func (r *record) generation() []byte { return r[0:8:8] }
func (r *record) kind() []byte       { return r[8:12:12] }
func (r *record) size() []byte       { return r[12:16:16] }
func (r *record) change() []byte     { return r[16:24:24] }
func (r *record) indirect() []byte   { return r[56:60:60] }
func (r *record) rest() []byte       { return r[60:128:128] }

func (r *record) direct(i int) []byte {
	from := 24 + narrow*i
	to := from + narrow
	return r[from:to:to]
}

// recordOf is the record of an inode; of api.Inode{} that of a free slot.
func recordOf(generation int, x api.Inode) record {
	var r record
	put(r.generation(), generation)
	put(r.kind(), x.Kind)
	put(r.size(), x.Size)
	put(r.change(), x.Change)
	for i, b := range x.Direct {
		put(r.direct(i), b)
	}
	put(r.indirect(), x.Indirect)
	return r
}

// read tells the generation and the inode, but for its id, which hangs on the slot; and whether the record may be.
func (r record) read(l api.Layout) (int, api.Inode, bool) {
	generation, x := number(r.generation()), r.inode()
	if generation < 0 || generation > api.MaxUse || [restSize]byte(r.rest()) != [restSize]byte{} {
		return 0, api.Inode{}, false
	}
	if x.Kind == free {
		return generation, x, x == api.Inode{}
	}
	return generation, x, generation >= 1 && mayBe(l, x)
}

func (r *record) inode() api.Inode {
	x := api.Inode{
		Kind:     number(r.kind()),
		Size:     number(r.size()),
		Change:   number(r.change()),
		Indirect: number(r.indirect()),
	}
	for i := range x.Direct {
		x.Direct[i] = number(r.direct(i))
	}
	return x
}

// mayBe tells whether these may be the numbers of an inode in use; its id is not looked at.
func mayBe(l api.Layout, x api.Inode) bool {
	if !isKind(x.Kind) || x.Size < 0 || x.Size > api.MaxSize || x.Change < 0 || x.Change > api.MaxNumber {
		return false
	}
	for _, b := range x.Direct {
		if !isBlock(l, b) {
			return false
		}
	}
	return isBlock(l, x.Indirect)
}

func isKind(kind int) bool { return kind == api.File || kind == api.Dir }

// isBlock: a block number may also be that of none.
func isBlock(l api.Layout, b int) bool {
	return b == 0 || b >= l.Data && b < l.Data+l.DataLen
}

func number(piece []byte) int {
	r := bits.NewReader(piece)
	n := 0
	if len(piece) == wide {
		n = r.U64(math.MaxInt)
	} else {
		n = r.U32(math.MaxUint32)
	}
	if r.Close() != api.OK {
		return tooGreat
	}
	return n
}

func put(piece []byte, n int) {
	if len(piece) == wide {
		copy(piece, bits.Put64(nil, n))
	} else {
		copy(piece, bits.Put32(nil, n))
	}
}
