package fsck_test

import (
	"bytes"
	"cmp"
	"encoding/binary"
	"fmt"
	"hash/fnv"
	"slices"
	"strings"
	"testing"

	"annex/api"
	"annex/device"
	"annex/fsck"
	"annex/journal"
	"annex/msg"
	"annex/plan"
	"annex/server"
)

const last = 1 << 62 // the greatest epoch, seq and stamp

// example is the shape of the chapter's examples: the journal in the blocks 2 to 28, the ledger from 29, the bitmap in 36, the table in 37, the data from 38 to 57.
var (
	example = api.Shape{Clients: 2, Window: 2, Places: 1, Cache: 2, Inodes: 4, Quota: 2000, Data: 20, Journal: 27}
	uneven  = api.Shape{Clients: 3, Window: 3, Places: 2, Cache: 5, Inodes: 7, Quota: 6000, Data: 61, Journal: 30} // slots lie behind the table's last one
	roomy   = api.Shape{Clients: 8, Window: 8, Places: 8, Cache: 16, Inodes: 40, Quota: 80000, Data: 400, Journal: 60}
	tiny    = api.Shape{Clients: 1, Window: 1, Places: 1, Cache: 1, Inodes: 2, Quota: 0, Data: 8, Journal: 27}
	vast    = api.Shape{Clients: 8, Window: 8, Places: 8, Cache: 64, Inodes: 256, Quota: 524288, Data: 3600, Journal: 200}
)

func shapes() []api.Shape { return []api.Shape{example, uneven, roomy, tiny} }

func is[T comparable](t *testing.T, what string, got, want T) {
	t.Helper()
	if got != want {
		t.Fatalf("%s: %v, want %v", what, got, want)
	}
}

// tale is a second telling of the chapter, over the plain bytes that recovery leaves.
type tale struct {
	b     []byte
	l     api.Layout
	next  int
	table []record
}

// record is a slot's 128 bytes, taken apart.
type record struct {
	slot, id                int
	kind, size, change      uint64
	numbers                 [9]uint64
	mayBe, free, dir, inUse bool
}

func u32(b []byte) uint64 { return uint64(binary.BigEndian.Uint32(b)) }

// taleOf is P23.1.
func taleOf(image []byte) (*tale, api.Errno) {
	d, code := device.Image(image)
	if code != api.OK {
		return nil, code
	}
	shape, code := plan.ReadSuper(image[:512])
	if code != api.OK {
		return nil, code
	}
	w := &tale{}
	if w.l, _ = plan.Plan(shape); len(image) != 512*w.l.Total {
		return nil, api.ErrRoom
	}
	j, _, code := journal.Open(d, 2, shape.Journal)
	if code != api.OK {
		return nil, code
	}
	w.next, _, _ = j.State()
	w.b = d.Durable()
	for slot := range w.l.Shape.Inodes {
		w.table = append(w.table, w.record(slot))
	}
	return w, api.OK
}

func (w *tale) block(n int) []byte { return w.b[512*n : 512*n+512] }

func (w *tale) isData(n uint64) bool {
	return int(n) >= w.l.Data && int(n) < w.l.Data+w.l.Shape.Data
}

func zeros(b []byte) bool { return len(bytes.Trim(b, "\x00")) == 0 }

// epoch is -1, if there is none.
func (w *tale) epoch() int {
	b := w.block(1)
	n := binary.BigEndian.Uint64(b[8:])
	if string(b[:8]) != "ANXB\x00\x00\x00\x00" || !zeros(b[16:]) || n > last {
		return -1
	}
	return int(n)
}

func (w *tale) record(slot int) record {
	b := w.b[512*w.l.Table+128*slot:][:128]
	generation := binary.BigEndian.Uint64(b)
	r := record{slot: slot, kind: u32(b[8:]), size: u32(b[12:]), change: binary.BigEndian.Uint64(b[16:])}
	right := true
	for i := range r.numbers {
		r.numbers[i] = u32(b[24+4*i:])
		right = right && (r.numbers[i] == 0 || w.isData(r.numbers[i]))
	}
	r.free = r.kind == 0
	switch {
	case generation > 1<<40 || !zeros(b[60:]):
	case r.free:
		r.mayBe = zeros(b[8:])
	default:
		r.mayBe = r.kind <= 2 && generation > 0 && r.size <= 69632 && r.change <= last && right
	}
	r.inUse = r.mayBe && !r.free
	r.dir = r.inUse && r.kind == 2
	r.id = int(generation<<8) + slot
	return r
}

// live is the records in use.
func (w *tale) live() []record {
	return slices.DeleteFunc(slices.Clone(w.table), func(r record) bool { return !r.inUse })
}

func (w *tale) of(id int) (record, bool) {
	for _, r := range w.table {
		if r.inUse && r.id == id {
			return r, true
		}
	}
	return record{}, false
}

// piece is the number of a piece's block: 0 for none.
func (w *tale) piece(r record, n int) uint64 {
	if n < 8 {
		return r.numbers[n]
	}
	if r.numbers[8] == 0 {
		return 0
	}
	return u32(w.block(int(r.numbers[8]))[4*(n-8):])
}

// blocks is false, if one of the numbers may not be.
func (w *tale) blocks(r record) ([]uint64, bool) {
	var list []uint64
	for n := range 136 {
		b := w.piece(r, n)
		if b != 0 && !w.isData(b) {
			return nil, false
		}
		if b != 0 {
			list = append(list, b)
		}
	}
	if r.numbers[8] != 0 {
		list = append(list, r.numbers[8])
	}
	return list, true
}

func (w *tale) contents(r record) ([]byte, bool) {
	var row []byte
	for n := 0; len(row) < int(r.size); n++ {
		b := w.piece(r, n)
		switch {
		case b == 0:
			row = append(row, make([]byte, 512)...)
		case w.isData(b):
			row = append(row, w.block(int(b))...)
		default:
			return nil, false
		}
	}
	return row[:r.size], true
}

type entry struct {
	name string
	id   int
}

// entries is false, if the directory's contents may not be.
func (w *tale) entries(r record) ([]entry, bool) {
	row, ok := w.contents(r)
	if !ok || len(row)%32 != 0 || len(row) > 8192 {
		return nil, false
	}
	var list []entry
	for ; len(row) > 0; row = row[32:] {
		id, long := binary.BigEndian.Uint64(row), int(row[8])
		if id == 0 || id >= 1<<49 || long < 1 || long > 23 || !zeros(row[9+long:32]) {
			return nil, false
		}
		name := string(row[9 : 9+long])
		if strings.ContainsAny(name, "/\x00") || name == "." || name == ".." {
			return nil, false
		}
		if slices.ContainsFunc(list, func(e entry) bool { return e.name == name }) {
			return nil, false
		}
		list = append(list, entry{name, int(id)})
	}
	slices.SortFunc(list, func(a, b entry) int { return cmp.Compare(a.name, b.name) })
	return list, true
}

// shown is a name in a line.
func shown(name string) string {
	out := ""
	for i := range len(name) {
		if name[i] < 0x21 || name[i] > 0x7e || name[i] == '%' {
			out += fmt.Sprintf("%%%02x", name[i])
		} else {
			out += name[i : i+1]
		}
	}
	return out
}

// check is P23.2, part by part.
func (w *tale) check() []string {
	var list []string
	add := func(words ...any) { list = append(list, strings.TrimSuffix(fmt.Sprintln(words...), "\n")) }
	if w.epoch() < 0 {
		add("boot")
	}
	for _, r := range w.table {
		if !r.mayBe {
			add("record", r.slot)
		} else if r.inUse && int(r.change) >= w.next {
			add("change", r.id)
		}
	}
	if r, ok := w.of(256); !ok || r.kind != 2 {
		add("root")
	}
	w.checkBlocks(add)
	w.checkTree(add)
	sizes := 0
	for _, r := range w.live() {
		if r.kind == 1 {
			sizes += int(r.size)
		}
	}
	if sizes > w.l.Shape.Quota {
		add("quota", sizes)
	}
	w.checkLedger(add)
	return list
}

func (w *tale) checkBlocks(add func(...any)) {
	told := map[uint64]int{}
	for _, r := range w.live() {
		list, ok := w.blocks(r)
		if !ok {
			add("bent", r.id)
			continue
		}
		long := r.numbers[8] != 0 && r.size <= 4096
		for n := range 136 {
			long = long || 512*n >= int(r.size) && w.piece(r, n) != 0
		}
		if long {
			add("long", r.id)
		}
		for _, b := range list {
			told[b]++
		}
	}
	for i := range w.l.Shape.Data {
		used := w.block(w.l.Bits)[i/8]&(1<<(i%8)) != 0
		switch many := told[uint64(w.l.Data+i)]; {
		case many > 1:
			add("shared", w.l.Data+i)
		case many == 1 && !used:
			add("free", w.l.Data+i)
		case many == 0 && used:
			add("lost", w.l.Data+i)
		}
	}
}

func (w *tale) checkTree(add func(...any)) {
	leads := map[int]int{}
	below := map[int][]int{} // by directories: what their entries lead to
	for _, r := range w.live() {
		if !r.dir {
			continue
		}
		list, ok := w.entries(r)
		if !ok {
			add("list", r.id)
		}
		for _, e := range list {
			if _, ok := w.of(e.id); !ok {
				add("dangling", r.id, shown(e.name))
				continue
			}
			leads[e.id]++
			below[r.id] = append(below[r.id], e.id)
		}
	}
	reached := map[int]bool{256: true}
	for many := 0; many != len(reached); { // till a round finds no more
		many = len(reached)
		for dir, list := range below {
			for _, id := range list {
				if reached[dir] {
					reached[id] = true
				}
			}
		}
	}
	for _, r := range w.live() {
		switch {
		case leads[r.id] == 0 && r.id != 256:
			add("orphan", r.id)
		case leads[r.id] > 1 || leads[r.id] > 0 && r.id == 256:
			add("twice", r.id)
		case !reached[r.id]:
			add("apart", r.id)
		}
	}
}

// kept is a slot of the ledger that is not empty.
type kept struct {
	client      int
	seq, stamp  uint64
	reply, slot []byte
}

// ledger is false, if a slot of it may not be.
func (w *tale) ledger() ([]kept, bool) {
	var list []kept
	for i := range w.l.Shape.Cache {
		b := w.b[512*(w.l.Ledger+1+3*i):][:1536]
		k := kept{client: int(u32(b)), seq: binary.BigEndian.Uint64(b[8:]), stamp: binary.BigEndian.Uint64(b[16:])}
		long := int(u32(b[4:]))
		if k.seq == 0 {
			continue
		}
		if k.client >= w.l.Shape.Clients || long < 1 || long > 1400 || k.seq > last || k.stamp < 1 || k.stamp > last {
			return nil, false
		}
		k.reply = b[24 : 24+long]
		list = append(list, k)
	}
	slices.SortStableFunc(list, func(a, b kept) int {
		return cmp.Or(cmp.Compare(a.client, b.client), cmp.Compare(a.seq, b.seq))
	})
	return list, true
}

func (w *tale) checkLedger(add func(...any)) {
	mark := func(c int) uint64 { return binary.BigEndian.Uint64(w.block(w.l.Ledger)[8*c:]) }
	for c := range w.l.Shape.Clients {
		if mark(c) > last {
			add("mark", c)
		}
	}
	list, ok := w.ledger()
	if !ok {
		add("ledger")
	}
	for i, k := range list {
		if i > 0 && list[i-1].client == k.client && list[i-1].seq == k.seq {
			add("double", k.client, k.seq)
		}
		r, code := msg.DecodeReply(k.reply)
		if code != api.OK || r.Client != k.client || r.Seq != int(k.seq) {
			add("kept", k.client, k.seq)
		} else if r.Epoch > max(w.epoch(), 0) {
			add("era", k.client, k.seq)
		}
		if m := mark(k.client); m <= last && k.seq > m+uint64(w.l.Shape.Window) {
			add("ahead", k.client, k.seq)
		}
		same := 0
		for _, o := range list {
			if o.stamp == k.stamp {
				same++
			}
		}
		if int(k.stamp) >= w.next || same > 1 {
			add("stamp", k.client, k.seq)
		}
	}
}

// tree is P23.4.
func (w *tale) tree() []string {
	if r, ok := w.of(256); !ok || !r.dir {
		return nil
	}
	return w.below("/", 256, map[int]bool{})
}

func (w *tale) below(path string, id int, had map[int]bool) []string {
	r, ok := w.of(id)
	if !ok || had[id] {
		return nil
	}
	had[id] = true
	if r.kind == 1 {
		row, ok := w.contents(r)
		h := fnv.New64a()
		h.Write(row)
		shown := fmt.Sprintf("%016x", h.Sum64())
		if !ok {
			shown = "-"
		}
		return []string{fmt.Sprint("file ", path, " ", id, " ", r.size, " ", r.change, " ", shown)}
	}
	list, ok := w.entries(r)
	many := fmt.Sprint(len(list))
	if !ok {
		many = "-"
	}
	lines := []string{fmt.Sprint("dir ", path, " ", id, " ", many, " ", r.change)}
	for _, e := range list {
		lines = append(lines, w.below(strings.TrimSuffix(path, "/")+"/"+shown(e.name), e.id, had)...)
	}
	return lines
}

// whole is a list of lines as one text.
func whole(lines []string) string { return strings.Join(lines, " | ") }

// holds holds the three calls against the second telling.
func holds(t *testing.T, what string, image []byte) {
	t.Helper()
	w, wantCode := taleOf(image)
	var check, tree []string
	if wantCode == api.OK {
		check, tree = w.check(), w.tree()
	}
	says(t, what, image, wantCode, check, tree)
}

// says holds the three calls against an answer.
func says(t *testing.T, what string, image []byte, code api.Errno, check, tree []string) {
	t.Helper()
	checks(t, what, image, code, check...)
	got, c := fsck.Tree(image)
	is(t, what+": Tree's error", c, code)
	is(t, what+": Tree", whole(got), whole(tree))
	is(t, what+": lines of Tree", len(got), len(tree))
}

func checks(t *testing.T, what string, image []byte, code api.Errno, check ...string) {
	t.Helper()
	got, c := fsck.Check(image)
	is(t, what+": Check's error", c, code)
	is(t, what+": Check", whole(got), whole(check))
	is(t, what+": lines of Check", len(got), len(check))
	sound, c := fsck.Sound(image)
	is(t, what+": Sound's error", c, code)
	is(t, what+": Sound", sound, code == api.OK && len(check) == 0)
}

// disk is an image that is written by hand.
type disk struct {
	t *testing.T
	l api.Layout
	b []byte
}

// diskOf is Format's.
func diskOf(t *testing.T, s api.Shape) *disk {
	t.Helper()
	b, code := server.Format(s)
	is(t, "Format", code, api.OK)
	l, code := plan.Plan(s)
	is(t, "Plan", code, api.OK)
	return &disk{t, l, b}
}

func (d *disk) copy() *disk { return &disk{d.t, d.l, bytes.Clone(d.b)} }

func (d *disk) block(n int) []byte { return d.b[512*n : 512*n+512] }

// data is the i-th data block.
func (d *disk) data(i int) []byte { return d.block(d.l.Data + i) }

func (d *disk) slot(n int) []byte { return d.b[512*d.l.Table+128*n:][:128] }

func (d *disk) kept(i int) []byte { return d.b[512*(d.l.Ledger+1+3*i):][:1536] }

func put32(b []byte, n int) { binary.BigEndian.PutUint32(b, uint32(n)) }

func put64(b []byte, n uint64) { binary.BigEndian.PutUint64(b, n) }

// inode lays a record; numbers are the direct block numbers, and behind eight of them the indirect one.
func (d *disk) inode(id, kind, size, change int, numbers ...int) {
	b := d.slot(id % 256)
	clear(b)
	put64(b, uint64(id/256))
	put32(b[8:], kind)
	put32(b[12:], size)
	put64(b[16:], uint64(change))
	for i, n := range numbers {
		put32(b[24+4*i:], n)
	}
}

// bits sets the bits of data blocks, by their numbers.
func (d *disk) bits(numbers ...int) {
	for _, n := range numbers {
		i := n - d.l.Data
		d.block(d.l.Bits)[i/8] |= 1 << (i % 8)
	}
}

// entries lays entries into the block n, and tells their bytes.
func (d *disk) entries(n int, list ...entry) int {
	for i, e := range list {
		b := d.block(n)[32*i:][:32]
		clear(b)
		put64(b, uint64(e.id))
		b[8] = byte(len(e.name))
		copy(b[9:], e.name)
	}
	return 32 * len(list)
}

// root lays the root's entries into the i-th data block.
func (d *disk) root(i int, list ...entry) {
	n := d.l.Data + i
	d.inode(256, 2, d.entries(n, list...), 1, n)
	d.bits(n)
}

func (d *disk) epoch(n uint64) { put64(d.block(1)[8:], n) }

func (d *disk) mark(c int, n uint64) { put64(d.block(d.l.Ledger)[8*c:], n) }

// keep lays a slot of the ledger.
func (d *disk) keep(i, client int, seq, stamp uint64, reply []byte) {
	b := d.kept(i)
	clear(b)
	put32(b, client)
	put32(b[4:], len(reply))
	put64(b[8:], seq)
	put64(b[16:], stamp)
	copy(b[24:], reply)
}

// head lays a head of the journal over an empty log: the stamp to come is this one.
func (d *disk) head(next uint64) {
	clear(d.b[2*512 : 512*d.l.Ledger])
	b := d.block(2)
	copy(b, "ANXH")
	put64(b[8:], next)
	h := fnv.New64a()
	h.Write(b[:20])
	put64(b[20:], h.Sum64())
}

// logged writes the blocks of a transaction into the log as the one to come, and its commit: they stand there alone.
func (d *disk) logged(blocks map[int][]byte) {
	d.t.Helper()
	x, code := device.Image(d.b)
	is(d.t, "Image", code, api.OK)
	j, _, code := journal.Open(x, 2, d.l.JournalLen)
	is(d.t, "Open", code, api.OK)
	t := j.Begin()
	for n, b := range blocks {
		is(d.t, "Write", t.Write(n, b), api.OK)
	}
	is(d.t, "Commit", t.Commit(), api.OK)
	d.b = x.Durable()
}

// reply is the datagram of a reply that is short.
func reply(t *testing.T, client, seq, epoch int) []byte {
	t.Helper()
	b, code := msg.EncodeReply(api.Reply{Client: client, Seq: seq, Epoch: epoch, Op: api.Remove})
	is(t, "EncodeReply", code, api.OK)
	return b
}
