package fsck

import (
	"bytes"
	"iter"

	"annex/api"
	"annex/ledger"
)

// slotsOfAnId is what an id has for slots: the rest of it by that is its slot.
const slotsOfAnId = 256

// picture is all that Check judges, read ahead: behind that nobody writes it, so that all parts may read it at the same time.
type picture struct {
	layout   api.Layout
	next     int // the stamp to come
	epoch    int // 0, if there is none
	noBoot   bool
	table    table
	holdings []holding // by slots
	bitmap   []bool    // by data blocks
	marks    []mark    // by clients
	kept     []api.Kept
	noLedger bool // what is kept may not be
}

// table is the slots of the inode table.
type table []slot

// slot is what a place of the table holds.
type slot struct {
	bent    bool // its record may not be
	used    bool // it is in use, with this inode
	node    api.Inode
	entries []api.Entry // of a directory
	noList  bool        // it is a directory, and its entries may not be
}

// holding is what an inode has for blocks.
type holding struct {
	bent bool
	list []int
	long bool // one of them lies behind the end
}

type mark struct {
	seq  int
	bent bool
}

func pictureOf(image []byte) (*picture, api.Errno) {
	v, code := opened(image)
	if code != api.OK {
		return nil, code
	}
	defer v.tx.Drop()
	p := &picture{layout: v.layout, next: v.next, table: v.table(), bitmap: v.bitmap(), marks: v.marks()}
	epoch, ok := epochIn(v.block(v.layout.Boot))
	p.epoch, p.noBoot = epoch, !ok
	p.holdings = make([]holding, len(p.table))
	for n, s := range p.table.inUse() {
		p.holdings[n] = v.holding(s.node)
	}
	p.kept, code = ledger.All(v.tx, v.layout)
	p.noLedger = code != api.OK
	return p, api.OK
}

// epochIn is what a boot block says; false, if the block is none, or the epoch is above its bound.
func epochIn(block []byte) (int, bool) {
	const begin, epochLen = "ANXB\x00\x00\x00\x00", 8
	rest, ok := bytes.CutPrefix(block, []byte(begin))
	if !ok || len(bytes.Trim(rest[epochLen:], "\x00")) > 0 {
		return 0, false
	}
	epoch := number(rest[:epochLen])
	if epoch > api.MaxNumber {
		return 0, false
	}
	return int(epoch), true
}

func number(b []byte) uint64 {
	n := uint64(0)
	for _, x := range b {
		n = n<<8 | uint64(x)
	}
	return n
}

func (s slot) isDir() bool { return s.used && s.node.Kind == api.Dir }

func (s slot) isFile() bool { return s.used && s.node.Kind == api.File }

// inUse goes through the slots in use, rising.
func (t table) inUse() iter.Seq2[int, slot] {
	return func(yield func(int, slot) bool) {
		for n, s := range t {
			if s.used && !yield(n, s) {
				return
			}
		}
	}
}

// find tells the slot of an id; false, if the id is not in use.
func (t table) find(id int) (int, bool) {
	n := id % slotsOfAnId
	return n, n < len(t) && t[n].used && t[n].node.Id == id
}
