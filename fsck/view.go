package fsck

import (
	"annex/api"
	"annex/device"
	"annex/dir"
	"annex/file"
	"annex/inode"
	"annex/journal"
	"annex/ledger"
	"annex/plan"
	"annex/space"
)

// view is what recovery makes of an image: a transaction over a device of its own. Nothing arms that device, and the layout is its own, so no call over it answers an error but those that judge what stands there.
type view struct {
	tx     *journal.Tx
	layout api.Layout
	next   int // the stamp to come
}

func opened(image []byte) (*view, api.Errno) {
	d, code := device.Image(image)
	if code != api.OK {
		return nil, code
	}
	l, code := layoutOf(d)
	if code != api.OK {
		return nil, code
	}
	j, _, code := journal.Open(d, l.Journal, l.JournalLen)
	if code != api.OK {
		return nil, code
	}
	next, _, _ := j.State()
	return &view{j.Begin(), l, next}, api.OK
}

// layoutOf asks the device itself: what the journal brings home may be another block 0.
func layoutOf(d *device.Device) (api.Layout, api.Errno) {
	super, _ := d.Read(0)
	shape, code := plan.ReadSuper(super)
	if code != api.OK {
		return api.Layout{}, code
	}
	l, code := plan.Plan(shape)
	if code == api.OK && d.Size() != l.Total {
		return api.Layout{}, api.ErrRoom
	}
	return l, code
}

func (v *view) block(b int) []byte {
	data, _ := v.tx.Read(b)
	return data
}

// table tells all slots.
func (v *view) table() table {
	slots := make(table, v.layout.Shape.Inodes)
	for n := range slots {
		slots[n] = v.slot(n)
	}
	return slots
}

func (v *view) slot(n int) slot {
	x, code := inode.Get(v.tx, v.layout, v.idAt(n))
	s := slot{node: x, used: code == api.OK, bent: code == api.ErrRecord}
	if s.isDir() {
		s.entries, code = dir.List(v.tx, v.layout, x)
		s.noList = code != api.OK
	}
	return s
}

// idAt is the id that the slot n has, if it is in use. With a generation that none in use has it is any id of the slot: Get tells of it whether the record may be.
func (v *view) idAt(n int) int {
	const inBlock, recordLen, generationLen = 4, api.BlockSize / 4, 8
	record := v.block(v.layout.Table + n/inBlock)[n%inBlock*recordLen:]
	generation := number(record[:generationLen])
	if generation < 1 || generation > api.MaxUse {
		generation = 1
	}
	return int(generation)*slotsOfAnId + n
}

// holding tells the blocks of an inode.
func (v *view) holding(x api.Inode) holding {
	list, code := file.Blocks(v.tx, v.layout, x)
	if code != api.OK {
		return holding{bent: true}
	}
	return holding{list: list, long: v.isLong(x)}
}

// isLong is for an inode that is not bent.
func (v *view) isLong(x api.Inode) bool {
	if x.Indirect != 0 && x.Size <= len(x.Direct)*api.BlockSize {
		return true
	}
	reached := (x.Size + api.BlockSize - 1) / api.BlockSize
	for piece, b := range v.numbers(x) {
		if piece >= reached && b != 0 {
			return true
		}
	}
	return false
}

// numbers tells the block numbers of the pieces, from the first one on.
func (v *view) numbers(x api.Inode) []int {
	const numberLen = 4
	list := x.Direct[:]
	if x.Indirect == 0 {
		return list
	}
	rest := v.block(x.Indirect)
	for i := 0; i < len(rest); i += numberLen {
		list = append(list, int(number(rest[i:i+numberLen])))
	}
	return list
}

// bitmap tells of each data block whether it is in use there.
func (v *view) bitmap() []bool {
	bits := make([]bool, v.layout.DataLen)
	for i := range bits {
		bits[i], _ = space.Has(v.tx, v.layout, v.layout.Data+i)
	}
	return bits
}

func (v *view) marks() []mark {
	list := make([]mark, v.layout.Shape.Clients)
	for c := range list {
		m, code := ledger.Mark(v.tx, v.layout, c)
		list[c] = mark{m, code != api.OK}
	}
	return list
}
