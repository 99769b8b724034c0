package inode

import (
	"annex/api"
	"annex/journal"
)

const (
	slotsABlock = api.BlockSize / recordSize
	slotsAnId   = 256 // an id counts the generations by so many
)

// slot is a place of the table, read for one call.
type slot struct {
	tx         *journal.Tx
	number     int
	at         int    // the block in which it stands
	block      []byte // what the transaction sees there
	generation int
	inode      api.Inode // zeros, if the slot is free
}

// slotOf is the slot in which the inode of an id stands; what the id alone tells is told ahead of the transaction's errors.
func slotOf(t *journal.Tx, l api.Layout, id int) (slot, api.Errno) {
	n := id % slotsAnId
	if id < slotsAnId || n >= l.Shape.Inodes {
		return slot{}, api.ErrStale
	}
	s, code := slotAt(t, l, n)
	if code != api.OK {
		return slot{}, code
	}
	if s.inode.Id != id {
		return slot{}, api.ErrStale
	}
	return s, api.OK
}

// slotAt is for a number below Inodes.
func slotAt(t *journal.Tx, l api.Layout, n int) (slot, api.Errno) {
	if t == nil { // what Begin answers where there is none: it is not open
		return slot{}, api.ErrEnded
	}
	s := slot{tx: t, number: n, at: l.Table + n/slotsABlock}
	block, code := t.Read(s.at)
	if code != api.OK {
		return slot{}, code
	}
	s.block = block
	ok := false
	s.generation, s.inode, ok = record(s.place()).read(l)
	if !ok {
		return slot{}, api.ErrRecord
	}
	if !s.isFree() {
		s.inode.Id = s.id()
	}
	return s, api.OK
}

// place is the slot's own bytes of the block.
func (s slot) place() []byte {
	from := s.number % slotsABlock * recordSize
	to := from + recordSize
	return s.block[from:to:to]
}

func (s slot) id() int { return s.generation*slotsAnId + s.number }

func (s slot) isFree() bool { return s.inode.Kind == free }

// mayBeTaken passes by a slot that is used up: behind its last generation it has none for a new id.
func (s slot) mayBeTaken() bool { return s.isFree() && s.generation < api.MaxUse }

// take lets the slot be used once more.
func (s slot) take(kind int) (api.Inode, api.Errno) {
	s.generation++
	x := api.Inode{Id: s.id(), Kind: kind, Change: s.tx.Seq()}
	if code := s.write(recordOf(s.generation, x)); code != api.OK {
		return api.Inode{}, code
	}
	return x, api.OK
}

func (s slot) write(r record) api.Errno {
	copy(s.place(), r[:])
	return s.tx.Write(s.at, s.block)
}
