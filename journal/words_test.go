package journal_test

import (
	"encoding/binary"
	"hash/fnv"
	"slices"

	"annex/api"
	"annex/device"
)

// A second telling of the chapter: a journal that keeps lists where the program keeps maps, and looks for what it wants.

const lastSeq = 1 << 62

// put is a block that a transaction wrote.
type put struct {
	block int
	data  []byte
}

// step is a write of the device, or (with no data) a flush.
type step struct {
	block int
	data  []byte
}

func flush() step { return step{} }

type told struct {
	d           *device.Device
	start, size int
	seq, place  int
	log         [][]put // the transactions that are not home, the oldest one first
	ended       bool
	open        *toldTx
}

type toldTx struct {
	of     *told
	puts   []put // each Write, the oldest one first
	marks  []mark
	given  int
	closed bool
}

// mark is a savepoint: so many Writes stood then.
type mark struct{ no, puts int }

func padded(parts ...any) []byte {
	var b []byte
	for _, p := range parts {
		switch x := p.(type) {
		case string:
			b = append(b, x...)
		case uint32:
			b = binary.BigEndian.AppendUint32(b, x)
		case uint64:
			b = binary.BigEndian.AppendUint64(b, x)
		}
	}
	return append(b, make([]byte, 512-len(b))...)
}

func headByWords(seq, place int) []byte {
	b := padded("ANXH", uint32(0), uint64(seq), uint32(place))
	h := fnv.New64a()
	h.Write(b[:20])
	binary.BigEndian.PutUint64(b[20:], h.Sum64())
	return b
}

func commitByWords(seq int) []byte { return padded("ANXC", uint32(0), uint64(seq)) }

// loggedByWords is a transaction as it stands in the log: its descriptor, its blocks, its commit.
func loggedByWords(seq int, puts []put) [][]byte {
	parts := []any{"ANXD", uint32(len(puts)), uint64(seq)}
	var blocks [][]byte
	for _, p := range puts {
		flag, b := 0, slices.Clone(p.data)
		if string(b[:4]) == "ANXD" {
			flag = 1
		}
		if string(b[:4]) == "ANXC" {
			flag = 2
		}
		if flag > 0 {
			copy(b, "\x00\x00\x00\x00")
		}
		parts = append(parts, uint32(p.block), uint32(flag))
		blocks = append(blocks, b)
	}
	return append(append([][]byte{padded(parts...)}, blocks...), commitByWords(seq))
}

func regionByWords(d *device.Device, start, size int) bool {
	return start >= 0 && size >= 27 && uint64(start)+uint64(size) <= uint64(d.Size())
}

func perform(d *device.Device, steps []step) api.Errno {
	for _, s := range steps {
		e := api.OK
		if s.data == nil {
			e = d.Flush()
		} else {
			e = d.Write(s.block, s.data)
		}
		if e != api.OK {
			return e
		}
	}
	return api.OK
}

func formatByWords(d *device.Device, start, size int) api.Errno {
	if !regionByWords(d, start, size) {
		return api.ErrRegion
	}
	var steps []step
	for b := start + 1; b < start+size; b++ {
		steps = append(steps, step{b, padded()})
	}
	steps = append(steps, flush(), step{start, headByWords(1, 0)}, flush())
	return perform(d, steps)
}

func openByWords(d *device.Device, start, size int) (*told, int, api.Errno) {
	if !regionByWords(d, start, size) {
		return nil, 0, api.ErrRegion
	}
	if !d.Power() {
		return nil, 0, api.ErrPower
	}
	h, _ := d.Read(start)
	seq, place := binary.BigEndian.Uint64(h[8:]), binary.BigEndian.Uint32(h[16:])
	f := fnv.New64a()
	f.Write(h[:20])
	if string(h[:4]) != "ANXH" || f.Sum64() != binary.BigEndian.Uint64(h[20:]) || seq < 1 || seq > lastSeq+1 || uint64(place) >= uint64(size-1) {
		return nil, 0, api.ErrHeadless
	}
	w := &told{d: d, start: start, size: size, seq: int(seq), place: int(place)}
	for w.seq <= lastSeq && w.free() >= 3 {
		puts, ok := w.takenAt()
		if !ok || len(puts)+2 > w.free() {
			break
		}
		w.behind(puts)
	}
	taken := len(w.log)
	if e := w.checkpoint(); e != api.OK {
		return nil, 0, e
	}
	return w, taken, api.OK
}

// takenAt reads the transaction at the journal's place.
func (w *told) takenAt() ([]put, bool) {
	desc, _ := w.d.Read(w.at(0))
	k := binary.BigEndian.Uint32(desc[4:])
	if string(desc[:4]) != "ANXD" || k < 1 || k > 24 || binary.BigEndian.Uint64(desc[8:]) != uint64(w.seq) {
		return nil, false
	}
	var puts []put
	for i := range int(k) {
		b := binary.BigEndian.Uint32(desc[16+8*i:])
		flag := binary.BigEndian.Uint32(desc[20+8*i:])
		if b >= 4096 || !w.outside(int(b)) || flag > 2 || i > 0 && puts[i-1].block >= int(b) {
			return nil, false
		}
		data, _ := w.d.Read(w.at(i + 1))
		if flag > 0 && string(data[:4]) != "\x00\x00\x00\x00" {
			return nil, false
		}
		if flag > 0 {
			copy(data, []string{"", "ANXD", "ANXC"}[flag])
		}
		puts = append(puts, put{int(b), data})
	}
	c, _ := w.d.Read(w.at(int(k) + 1))
	return puts, string(c[:4]) == "ANXC" && binary.BigEndian.Uint64(c[8:]) == uint64(w.seq)
}

func (w *told) outside(b int) bool {
	return b >= 0 && b < w.d.Size() && !(w.start <= b && b < w.start+w.size)
}

// at goes from place to place.
func (w *told) at(behind int) int {
	p := w.place
	for range behind {
		if p++; p == w.size-1 {
			p = 0
		}
	}
	return w.start + 1 + p
}

func (w *told) free() int {
	n := w.size - 1
	for _, puts := range w.log {
		n -= len(puts) + 2
	}
	return n
}

func newest(puts []put, b int) []byte {
	for i := len(puts) - 1; i >= 0; i-- {
		if puts[i].block == b {
			return puts[i].data
		}
	}
	return nil
}

func (w *told) away() []put {
	var all, list []put
	for _, puts := range w.log {
		all = append(all, puts...)
	}
	for b := range w.d.Size() {
		if data := newest(all, b); data != nil {
			list = append(list, put{b, data})
		}
	}
	return list
}

func (w *told) behind(puts []put) {
	w.place = w.at(len(puts)+2) - w.start - 1
	w.seq++
	w.log = append(w.log, puts)
}

func (w *told) checkpoint() api.Errno {
	if len(w.log) == 0 {
		return api.OK
	}
	var steps []step
	for _, p := range w.away() {
		steps = append(steps, step(p))
	}
	steps = append(steps, flush(), step{w.start, headByWords(w.seq, w.place)}, flush())
	e := perform(w.d, steps)
	if e == api.OK {
		w.log = nil
	}
	return e
}

// power is asked by every call that the chapter says meets ErrPower.
func (w *told) power() api.Errno {
	if w.d.Power() {
		return api.OK
	}
	return w.meets(api.ErrPower)
}

func (w *told) meets(e api.Errno) api.Errno {
	if e != api.OK {
		w.ended = true
		if w.open != nil {
			w.open.closed = true
		}
	}
	return e
}

func (w *told) begin() *toldTx {
	if w.ended || w.power() != api.OK || w.open != nil && !w.open.closed {
		return nil
	}
	w.open = &toldTx{of: w}
	return w.open
}

func (w *told) check() api.Errno {
	if w.ended {
		return api.ErrEnded
	}
	if e := w.power(); e != api.OK {
		return e
	}
	return w.meets(w.checkpoint())
}

func (w *told) state() [3]int {
	if w.ended {
		return [3]int{}
	}
	return [3]int{w.seq, w.free(), len(w.away())}
}

func (x *toldTx) read(b int) ([]byte, api.Errno) {
	switch {
	case x.closed:
		return nil, api.ErrEnded
	case !x.of.outside(b):
		return nil, api.ErrPlace
	case x.of.power() != api.OK:
		return nil, api.ErrPower
	}
	if data := newest(x.puts, b); data != nil {
		return data, api.OK
	}
	if data := newest(x.of.away(), b); data != nil {
		return data, api.OK
	}
	return x.of.d.Read(b)
}

func (x *toldTx) write(b int, data []byte) api.Errno {
	switch {
	case x.closed:
		return api.ErrEnded
	case !x.of.outside(b):
		return api.ErrPlace
	case len(data) != 512:
		return api.ErrLength
	case x.of.power() != api.OK:
		return api.ErrPower
	}
	if others := x.blocks(); !slices.Contains(others, b) && len(others) >= 24 {
		return api.ErrTxBig
	}
	x.puts = append(x.puts, put{b, slices.Clone(data)})
	return api.OK
}

func (x *toldTx) seq() int {
	if x.closed {
		return 0
	}
	return x.of.seq
}

func (x *toldTx) save() (int, api.Errno) {
	switch {
	case x.closed:
		return 0, api.ErrEnded
	case x.of.power() != api.OK:
		return 0, api.ErrPower
	}
	x.given++
	x.marks = append(x.marks, mark{x.given, len(x.puts)})
	return x.given, api.OK
}

func (x *toldTx) back(no int) api.Errno {
	switch {
	case x.closed:
		return api.ErrEnded
	case x.of.power() != api.OK:
		return api.ErrPower
	}
	for i, m := range x.marks {
		if m.no == no {
			x.puts, x.marks = x.puts[:m.puts], x.marks[:i+1]
			return api.OK
		}
	}
	return api.ErrMark
}

func (x *toldTx) blocks() []int {
	var list []int
	for _, p := range x.puts {
		if !x.closed && !slices.Contains(list, p.block) {
			list = append(list, p.block)
		}
	}
	slices.Sort(list)
	return list
}

func (x *toldTx) commit() api.Errno {
	if x.closed {
		return api.ErrEnded
	}
	w, blocks := x.of, x.blocks()
	x.closed = true
	if e := w.power(); e != api.OK {
		return e
	}
	if len(blocks) == 0 {
		return api.OK
	}
	if w.seq > lastSeq {
		return api.ErrSeqs
	}
	var puts []put
	for _, b := range blocks {
		puts = append(puts, put{b, newest(x.puts, b)})
	}
	if len(puts)+2 > w.free() {
		if e := w.checkpoint(); e != api.OK {
			return w.meets(e)
		}
	}
	var steps []step
	for i, b := range loggedByWords(w.seq, puts) {
		if i == len(puts)+1 {
			steps = append(steps, flush())
		}
		steps = append(steps, step{w.at(i), b})
	}
	if e := perform(w.d, append(steps, flush())); e != api.OK {
		return w.meets(e)
	}
	w.behind(puts)
	return api.OK
}

func (x *toldTx) drop() { x.closed = true }
