package ledger_test

import (
	"bytes"
	"encoding/binary"
	"math/rand"
	"reflect"
	"slices"
	"testing"

	"annex/api"
	"annex/device"
	"annex/journal"
	"annex/ledger"
	"annex/plan"
)

const last = 1 << 62 // the greatest number of all

// told is a second telling of the chapter: it works on the ledger's bytes in memory.
type told struct {
	clients, cache int
	bytes          []byte // the block of the watermarks, and the slots
	written        []bool // by blocks: whether this transaction has written them
}

// head is what stands ahead of a reply.
type head struct {
	Client, Length uint32
	Seq, Stamp     uint64
}

func (w told) clone() told {
	w.bytes, w.written = bytes.Clone(w.bytes), slices.Clone(w.written)
	return w
}

func (w told) slot(i int) []byte { return w.bytes[512+1536*i : 512+1536*(i+1)] }

func (w told) head(i int) head {
	var h head
	binary.Read(bytes.NewReader(w.slot(i)), binary.BigEndian, &h)
	return h
}

func (w told) reply(i int) []byte { return w.slot(i)[24:][:w.head(i).Length] }

func (w told) isBent(i int) bool {
	h := w.head(i)
	switch {
	case h.Seq == 0:
		return false
	case h.Client >= uint32(w.clients), h.Length == 0, h.Length > 1400:
		return true
	}
	return h.Stamp == 0 || h.Seq > last || h.Stamp > last
}

func (w told) anyBent() bool {
	for i := range w.cache {
		if w.isBent(i) {
			return true
		}
	}
	return false
}

func (w told) isAsked(i, c, seq int) bool {
	h := w.head(i)
	return h.Client == uint32(c) && h.Seq == uint64(seq) && h.Seq > 0
}

func (w told) format() {
	clear(w.bytes[:512])
	w.written[0] = true
}

func (w told) mark(c int) (int, api.Errno) {
	if c < 0 || c >= w.clients {
		return 0, api.ErrNoClient
	}
	if m := binary.BigEndian.Uint64(w.bytes[8*c:]); m <= last {
		return int(m), api.OK
	}
	return 0, api.ErrLedger
}

func (w told) raise(c, ack int) api.Errno {
	m, code := w.mark(c)
	switch {
	case code == api.ErrNoClient:
		return code
	case ack < 0, ack > last:
		return api.ErrArg
	case code != api.OK:
		return code
	case ack > m:
		binary.BigEndian.PutUint64(w.bytes[8*c:], uint64(ack))
		w.written[0] = true
	}
	return api.OK
}

func (w told) find(c, seq int) ([]byte, bool, api.Errno) {
	if c < 0 || c >= w.clients {
		return nil, false, api.ErrNoClient
	}
	if seq <= 0 || seq > last {
		return nil, false, api.ErrArg
	}
	for i := range w.cache {
		if w.isBent(i) {
			return nil, false, api.ErrLedger
		}
		if w.isAsked(i, c, seq) {
			return w.reply(i), true, api.OK
		}
	}
	return nil, false, api.OK
}

func (w told) put(c, seq int, b []byte, stamp int) api.Errno {
	m, code := w.mark(c)
	switch {
	case code == api.ErrNoClient:
		return code
	case seq <= 0, seq > last, len(b) == 0, len(b) > 1400:
		return api.ErrArg
	case code != api.OK:
		return code
	case seq <= m:
		return api.ErrOld
	case w.anyBent():
		return api.ErrLedger
	}
	for i := range w.cache {
		if w.isAsked(i, c, seq) {
			return api.ErrKept
		}
	}
	i, code := w.place()
	if code == api.OK {
		w.lay(i, head{uint32(c), uint32(len(b)), uint64(seq), uint64(stamp)}, b)
	}
	return code
}

// place is the slot for a new reply: of all that may go, in their order, the first of the least stamp.
func (w told) place() (int, api.Errno) {
	var mayGo []int
	for i := range w.cache {
		if w.head(i).Seq == 0 {
			return i, api.OK
		}
	}
	for i := range w.cache {
		m, code := w.mark(int(w.head(i).Client))
		if code != api.OK {
			return 0, code
		}
		if w.head(i).Seq <= uint64(m) {
			mayGo = append(mayGo, i)
		}
	}
	if mayGo == nil {
		return 0, api.ErrCacheFull
	}
	return slices.MinFunc(mayGo, func(i, j int) int { return int(w.head(i).Stamp) - int(w.head(j).Stamp) }), api.OK
}

func (w told) lay(i int, h head, b []byte) {
	room := w.slot(i)
	clear(room)
	binary.Encode(room, binary.BigEndian, h)
	copy(room[24:], b)
	for n := range 3 {
		w.written[1+3*i+n] = true
	}
}

// all goes through all that a pair of client and seq may be, the least first.
func (w told) all() ([]api.Kept, api.Errno) {
	if w.anyBent() {
		return nil, api.ErrLedger
	}
	var seqs []int
	for i := range w.cache {
		seqs = append(seqs, int(w.head(i).Seq))
	}
	slices.Sort(seqs)
	var list []api.Kept
	for c := range w.clients {
		for _, seq := range slices.Compact(slices.Clone(seqs)) {
			for i := range w.cache {
				if w.isAsked(i, c, seq) {
					list = append(list, api.Kept{Client: c, Seq: seq, Stamp: int(w.head(i).Stamp), Data: bytes.Clone(w.reply(i))})
				}
			}
		}
	}
	return list, api.OK
}

// ground is a device, a journal there, its open transaction, and what the second telling says of it.
type ground struct {
	t     *testing.T
	l     api.Layout
	d     *device.Device
	j     *journal.Journal
	x     *journal.Tx
	image []byte // all blocks, as they were at first
	stays told   // by the transactions that were committed
	now   told   // as the open one sees it
}

func layoutOf(t *testing.T, clients, cache int) api.Layout {
	t.Helper()
	l, code := plan.Plan(api.Shape{Clients: clients, Window: 1, Places: 1, Cache: cache, Inodes: 6, Data: 40, Journal: 27})
	if code != api.OK {
		t.Fatalf("Plan: %d", code)
	}
	return l
}

func noise(seed int64, n int) []byte {
	b := make([]byte, n)
	rand.New(rand.NewSource(seed)).Read(b)
	return b
}

// bare has a ledger of zeros, and noise in all other blocks but the journal's.
func bare(t *testing.T, clients, cache int) *ground {
	t.Helper()
	return groundWith(t, layoutOf(t, clients, cache), make([]byte, 512*(1+3*cache)))
}

// groundOf is a ledger just formatted; its transaction has the number 2.
func groundOf(t *testing.T, clients, cache int) *ground {
	t.Helper()
	g := bare(t, clients, cache)
	g.format()
	g.commit()
	return g
}

// groundWith has a ledger of these bytes.
func groundWith(t *testing.T, l api.Layout, b []byte) *ground {
	t.Helper()
	image := noise(int64(l.Total), 512*l.Total)
	copy(image[512*l.Ledger:], b)
	d, code := device.Image(image)
	if code != api.OK {
		t.Fatalf("Image: %d", code)
	}
	if code := journal.Format(d, l.Journal, l.JournalLen); code != api.OK {
		t.Fatalf("Format: %d", code)
	}
	g := &ground{t: t, l: l, d: d, image: image}
	g.stays = told{l.Shape.Clients, l.Shape.Cache, bytes.Clone(b), make([]bool, l.LedgerLen)}
	g.open()
	return g
}

func (g *ground) open() {
	g.t.Helper()
	j, _, code := journal.Open(g.d, g.l.Journal, g.l.JournalLen)
	if code != api.OK {
		g.t.Fatalf("Open: %d", code)
	}
	g.j = j
	g.begin()
}

func (g *ground) begin() {
	g.t.Helper()
	if g.x = g.j.Begin(); g.x == nil {
		g.t.Fatal("Begin: nil")
	}
	g.now = g.stays.clone()
}

func (g *ground) commit() {
	g.t.Helper()
	g.same("the transaction")
	is(g.t, "Commit", g.x.Commit(), api.OK)
	g.kept()
}

// kept is where a transaction has been committed.
func (g *ground) kept() {
	g.t.Helper()
	g.stays = g.now
	clear(g.stays.written)
	g.begin()
}

func (g *ground) drop() {
	g.t.Helper()
	g.x.Drop()
	g.begin()
}

// off lets the power fail.
func (g *ground) off() {
	g.d.Arm(1)
	g.d.Flush()
}

// fill lets the transaction write that many data blocks, each as it is.
func (g *ground) fill(many int) {
	g.t.Helper()
	for i := range many {
		b := g.l.Data + i
		is(g.t, "Write", g.x.Write(b, g.image[512*b:512*b+512]), api.OK)
	}
}

func (g *ground) format() {
	g.t.Helper()
	g.now.format()
	is(g.t, "Format", ledger.Format(g.x, g.l), api.OK)
	g.ledger("Format")
}

// Each of the calls asks the package and the second telling, and answers what both say.

func (g *ground) mark(c int) (int, api.Errno) {
	g.t.Helper()
	m, code := ledger.Mark(g.x, g.l, c)
	n, want := g.now.mark(c)
	if m != n || code != want {
		g.t.Fatalf("Mark(%d) = %d, %d, want %d, %d", c, m, code, n, want)
	}
	return m, code
}

func (g *ground) raise(c, ack int) api.Errno {
	g.t.Helper()
	code, want := ledger.Raise(g.x, g.l, c, ack), g.now.raise(c, ack)
	if code != want {
		g.t.Fatalf("Raise(%d, %d) = %d, want %d", c, ack, code, want)
	}
	g.ledger("Raise")
	return code
}

func (g *ground) find(c, seq int) (string, bool, api.Errno) {
	g.t.Helper()
	b, ok, code := ledger.Find(g.x, g.l, c, seq)
	d, there, want := g.now.find(c, seq)
	if !bytes.Equal(b, d) || ok != there || code != want {
		g.t.Fatalf("Find(%d, %d) = %x, %v, %d, want %x, %v, %d", c, seq, b, ok, code, d, there, want)
	}
	return string(b), ok, code
}

func (g *ground) put(c, seq int, b string) api.Errno {
	g.t.Helper()
	code, want := ledger.Put(g.x, g.l, c, seq, []byte(b)), g.now.put(c, seq, []byte(b), g.x.Seq())
	if code != want {
		g.t.Fatalf("Put(%d, %d, %d bytes) = %d, want %d", c, seq, len(b), code, want)
	}
	g.ledger("Put")
	return code
}

func (g *ground) all() ([]api.Kept, api.Errno) {
	g.t.Helper()
	list, code := ledger.All(g.x, g.l)
	other, want := g.now.all()
	if len(list)+len(other) > 0 && !reflect.DeepEqual(list, other) || code != want {
		g.t.Fatalf("All = %v, %d, want %v, %d", list, code, other, want)
	}
	return list, code
}

// has asks for one kept reply.
func (g *ground) has(c, seq int, want string) {
	g.t.Helper()
	b, ok, code := g.find(c, seq)
	if b != want || ok != (want != "") || code != api.OK {
		g.t.Fatalf("Find(%d, %d) = %q, %v, %d, want %q", c, seq, b, ok, code, want)
	}
}

// stands asks for one watermark.
func (g *ground) stands(c, want int) {
	g.t.Helper()
	if m, code := g.mark(c); m != want || code != api.OK {
		g.t.Fatalf("Mark(%d) = %d, %d, want %d", c, m, code, want)
	}
}

// in asks which reply stands in a slot, by its first bytes.
func (g *ground) in(i, c, seq int, b string) {
	g.t.Helper()
	block, code := g.x.Read(g.l.Ledger + 1 + 3*i)
	is(g.t, "Read", code, api.OK)
	is(g.t, "the slot's client", int(binary.BigEndian.Uint32(block)), c)
	is(g.t, "its length", int(binary.BigEndian.Uint32(block[4:])), len(b))
	is(g.t, "its seq", int(binary.BigEndian.Uint64(block[8:])), seq)
	is(g.t, "its reply", string(block[24:24+min(len(b), 488)]), b[:min(len(b), 488)])
}

// seen is the ledger's blocks as the transaction sees them.
func (g *ground) seen() []byte {
	g.t.Helper()
	var all []byte
	for n := range g.l.LedgerLen {
		b, code := g.x.Read(g.l.Ledger + n)
		if code != api.OK {
			g.t.Fatalf("Read of the ledger: %d", code)
		}
		all = append(all, b...)
	}
	return all
}

// ledger asks for the ledger's bytes, and which of its blocks were written.
func (g *ground) ledger(what string) {
	g.t.Helper()
	if !bytes.Equal(g.seen(), g.now.bytes) {
		g.t.Fatalf("behind %s the ledger has other bytes", what)
	}
	var want []int
	for n, yes := range g.now.written {
		if yes {
			want = append(want, g.l.Ledger+n)
		}
	}
	got := slices.DeleteFunc(g.x.Blocks(), func(b int) bool { return b >= g.l.Data })
	if !slices.Equal(got, want) {
		g.t.Fatalf("behind %s the blocks %v are written, want %v", what, got, want)
	}
}

// same asks for every block outside of the journal.
func (g *ground) same(what string) {
	g.t.Helper()
	g.ledger(what)
	for b := range g.l.Total {
		if b >= g.l.Journal && b < g.l.Ledger+g.l.LedgerLen {
			continue
		}
		if data, code := g.x.Read(b); code != api.OK || !bytes.Equal(data, g.image[512*b:512*b+512]) {
			g.t.Fatalf("%s has changed the block %d", what, b)
		}
	}
}

// lay writes a slot by hand: its head, the reply, and noise behind it.
func (g *ground) lay(i int, h head, b string) {
	g.t.Helper()
	g.now.lay(i, h, []byte(b))
	room := g.now.slot(i)[24+len(b):]
	copy(room, noise(int64(i), len(room)))
	g.layBlocks(1+3*i, 3)
}

// layMark writes a watermark by hand.
func (g *ground) layMark(c int, m uint64) {
	g.t.Helper()
	binary.BigEndian.PutUint64(g.now.bytes[8*c:], m)
	g.layBlocks(0, 1)
}

// layBlocks writes what the second telling has.
func (g *ground) layBlocks(from, many int) {
	g.t.Helper()
	for n := from; n < from+many; n++ {
		g.now.written[n] = true
		is(g.t, "Write", g.x.Write(g.l.Ledger+n, g.now.bytes[512*n:512*n+512]), api.OK)
	}
}

func is[T comparable](t *testing.T, what string, got, want T) {
	t.Helper()
	if got != want {
		t.Fatalf("%s: %v, want %v", what, got, want)
	}
}
