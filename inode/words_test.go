package inode_test

import (
	"encoding/hex"
	"fmt"
	"math/big"
	"math/rand"
	"slices"
	"strings"
	"testing"

	"annex/api"
	"annex/device"
	"annex/inode"
	"annex/journal"
	"annex/plan"
)

// told is a second telling of the chapter: a row of slots.
type told []place

// place is a slot: how often it has been used, whether it is, and for what.
type place struct {
	uses int
	used bool
	x    api.Inode
}

const lastUse = 1 << 40

func (w told) new(kind, seq int) (api.Inode, api.Errno) {
	switch kind {
	case 1, 2:
	default:
		return api.Inode{}, api.ErrArg
	}
	s := slices.IndexFunc(w, func(p place) bool { return !p.used && p.uses != lastUse })
	if s < 0 {
		return api.Inode{}, api.ErrInodes
	}
	uses := w[s].uses + 1
	w[s] = place{uses, true, api.Inode{Id: uses<<8 | s, Kind: kind, Change: seq}}
	return w[s].x, api.OK
}

func (w told) get(id int) (api.Inode, api.Errno) {
	for s, p := range w {
		if p.used && p.uses<<8|s == id {
			return p.x, api.OK
		}
	}
	return api.Inode{}, api.ErrStale
}

func (w told) put(l api.Layout, x api.Inode) api.Errno {
	if !soundByWords(l, x) {
		return api.ErrArg
	}
	is, code := w.get(x.Id)
	switch {
	case code != api.OK:
		return code
	case is.Kind != x.Kind:
		return api.ErrArg
	}
	w[x.Id&255].x = x
	return api.OK
}

func (w told) free(id int) api.Errno {
	if _, code := w.get(id); code != api.OK {
		return code
	}
	w[id&255] = place{uses: w[id&255].uses}
	return api.OK
}

func (w told) all() []api.Inode {
	var list []api.Inode
	for _, p := range w {
		if p.used {
			list = append(list, p.x)
		}
	}
	return list
}

// laid is the table with these slots, and behind them what stood in that one.
func (w told) laid(was []byte) []byte {
	b := slices.Clone(was)
	for s, p := range w {
		copy(b[s<<7:], p.record())
	}
	return b
}

// record is written out in hex digits first.
func (p place) record() []byte {
	s := fmt.Sprintf("%016x%08x%08x%016x", p.uses, p.x.Kind, p.x.Size, p.x.Change)
	for _, b := range append(p.x.Direct[:], p.x.Indirect) {
		s += fmt.Sprintf("%08x", b)
	}
	b, err := hex.DecodeString(s + strings.Repeat("00", 68))
	if err != nil || len(b) != 128 {
		panic("a record that is none: " + s)
	}
	return b
}

// soundByWords: what an inode's numbers but its id must be.
func soundByWords(l api.Layout, x api.Inode) bool {
	for _, b := range append(x.Direct[:], x.Indirect) {
		if b != 0 && !slices.Contains(dataBlocks(l), b) {
			return false
		}
	}
	return (x.Kind == 1 || x.Kind == 2) && 0 <= x.Size && x.Size <= 69632 && 0 <= x.Change && x.Change <= 4611686018427387904
}

func dataBlocks(l api.Layout) []int {
	list := make([]int, l.DataLen)
	for i := range list {
		list[i] = l.Data + i
	}
	return list
}

// placeByWords reads a record: each field as a number of any size.
func placeByWords(l api.Layout, s int, r []byte) (place, bool) {
	field := func(from, to int) *big.Int { return new(big.Int).SetBytes(r[from:to]) }
	if field(0, 8).Cmp(big.NewInt(1<<40)) > 0 || field(60, 128).Sign() != 0 {
		return place{}, false
	}
	p := place{uses: int(field(0, 8).Int64())}
	if field(8, 12).Sign() == 0 {
		return p, field(8, 128).Sign() == 0
	}
	if !field(16, 24).IsInt64() || p.uses == 0 {
		return place{}, false
	}
	small := func(from int) int { return int(field(from, from+4).Int64()) }
	p.used = true
	p.x = api.Inode{Id: p.uses<<8 | s, Kind: small(8), Size: small(12), Change: int(field(16, 24).Int64()), Indirect: small(56)}
	for i := range 8 {
		p.x.Direct[i] = small(24 + 4*i)
	}
	return p, soundByWords(l, p.x)
}

// slotNumbers are numbers of slots: the least, around the ends of blocks, the greatest.
var slotNumbers = []int{2, 3, 4, 5, 6, 7, 8, 9, 16, 17, 63, 64, 65, 255, 256}

func layoutOf(t *testing.T, slots int) api.Layout {
	t.Helper()
	return layoutFor(t, api.Shape{Clients: 1, Window: 1, Places: 1, Cache: 1, Inodes: slots, Data: 4*slots + 3, Journal: 27})
}

func layoutFor(t *testing.T, s api.Shape) api.Layout {
	t.Helper()
	l, code := plan.Plan(s)
	if code != api.OK {
		t.Fatalf("Plan(%+v): %d", s, code)
	}
	return l
}

// ground is a layout, a device for it, a journal there and its open transaction.
type ground struct {
	t *testing.T
	l api.Layout
	d *device.Device
	j *journal.Journal
	x *journal.Tx
}

// groundOf has noise in all blocks but the journal's; the slots, and they alone, are zeros.
func groundOf(t *testing.T, slots int) *ground {
	t.Helper()
	return groundWith(t, layoutOf(t, slots), make(told, slots))
}

func groundWith(t *testing.T, l api.Layout, w told) *ground {
	t.Helper()
	image := noise(int64(l.Total), l.Total*512)
	copy(image[l.Table*512:], w.laid(image[l.Table*512:l.Data*512]))
	d, code := device.Image(image)
	if code != api.OK {
		t.Fatalf("Image: %d", code)
	}
	if code := journal.Format(d, l.Journal, l.JournalLen); code != api.OK {
		t.Fatalf("Format: %d", code)
	}
	g := &ground{t: t, l: l, d: d}
	g.open()
	return g
}

func noise(seed int64, n int) []byte {
	b := make([]byte, n)
	rand.New(rand.NewSource(seed)).Read(b)
	return b
}

func (g *ground) open() {
	g.t.Helper()
	j, _, code := journal.Open(g.d, g.l.Journal, g.l.JournalLen)
	if code != api.OK {
		g.t.Fatalf("Open: %d", code)
	}
	g.j = j
	g.begin()
}

func (g *ground) begin() {
	g.t.Helper()
	if g.x = g.j.Begin(); g.x == nil {
		g.t.Fatal("Begin: nil")
	}
}

func (g *ground) commit() {
	g.t.Helper()
	if code := g.x.Commit(); code != api.OK {
		g.t.Fatalf("Commit: %d", code)
	}
	g.begin()
}

// upTo commits other things till the open transaction has that number.
func (g *ground) upTo(seq int) {
	g.t.Helper()
	for g.x.Seq() < seq {
		g.x.Write(g.l.Boot, make([]byte, 512))
		g.commit()
	}
}

// off lets the power fail.
func (g *ground) off() {
	g.d.Arm(1)
	g.d.Flush()
}

func (g *ground) new(kind int, want api.Inode, code api.Errno) {
	g.t.Helper()
	if x, e := inode.New(g.x, g.l, kind); x != want || e != code {
		g.t.Fatalf("New(%d) = %+v, %d, want %+v, %d (%d slots)", kind, x, e, want, code, g.l.Shape.Inodes)
	}
}

func (g *ground) get(id int, want api.Inode, code api.Errno) {
	g.t.Helper()
	if x, e := inode.Get(g.x, g.l, id); x != want || e != code {
		g.t.Fatalf("Get(%d) = %+v, %d, want %+v, %d (%d slots)", id, x, e, want, code, g.l.Shape.Inodes)
	}
}

func (g *ground) put(x api.Inode, want api.Errno) {
	g.t.Helper()
	if e := inode.Put(g.x, g.l, x); e != want {
		g.t.Fatalf("Put(%+v) = %d, want %d (%d slots)", x, e, want, g.l.Shape.Inodes)
	}
}

func (g *ground) free(id int, want api.Errno) {
	g.t.Helper()
	if e := inode.Free(g.x, g.l, id); e != want {
		g.t.Fatalf("Free(%d) = %d, want %d (%d slots)", id, e, want, g.l.Shape.Inodes)
	}
}

func (g *ground) all(want []api.Inode, code api.Errno) {
	g.t.Helper()
	if list, e := inode.All(g.x, g.l); !slices.Equal(list, want) || e != code {
		g.t.Fatalf("All = %+v, %d, want %+v, %d (%d slots)", list, e, want, code, g.l.Shape.Inodes)
	}
}

// table is the table's blocks as the transaction sees them.
func (g *ground) table() []byte {
	g.t.Helper()
	var all []byte
	for n := range g.l.TableLen {
		b, code := g.x.Read(g.l.Table + n)
		if code != api.OK {
			g.t.Fatalf("Read of the table: %d", code)
		}
		all = append(all, b...)
	}
	return all
}

// lay writes a slot's record by hand.
func (g *ground) lay(s int, record []byte) {
	g.t.Helper()
	b, _ := g.x.Read(g.l.Table + s/4)
	copy(b[s%4*128:s%4*128+128], record)
	if code := g.x.Write(g.l.Table+s/4, b); code != api.OK {
		g.t.Fatalf("Write of the table: %d", code)
	}
}

// wrote asks for the blocks that the transaction has written.
func (g *ground) wrote(what string, want ...int) {
	g.t.Helper()
	if got := g.x.Blocks(); !slices.Equal(got, want) {
		g.t.Fatalf("%s: the blocks %v were written, want %v", what, got, want)
	}
}

// sample is an inode in which each number is one of its own.
func sample(l api.Layout, id, kind int) api.Inode {
	x := api.Inode{Id: id, Kind: kind, Size: 0x10203, Change: 0x0102030405060708, Indirect: l.Data + 8}
	for i := range x.Direct {
		x.Direct[i] = l.Data + 7 - i
	}
	return x
}

// filled is a row of slots of all sorts: never used, free again, in use, used up.
func filled(l api.Layout, seed int64) told {
	r := rand.New(rand.NewSource(seed))
	w := make(told, l.Shape.Inodes)
	for s := range w {
		w[s].uses = []int{0, 1, 2, 255, 256, 1<<32 + 5, lastUse - 1, lastUse}[r.Intn(8)]
		if w[s].uses > 0 && r.Intn(3) > 0 {
			w[s].used, w[s].x = true, anyInode(r, l, w[s].uses<<8|s)
		}
	}
	return w
}

func anyInode(r *rand.Rand, l api.Layout, id int) api.Inode {
	block := func() int { return r.Intn(2) * (l.Data + r.Intn(l.DataLen)) }
	x := api.Inode{Id: id, Kind: 1 + r.Intn(2), Size: r.Intn(api.MaxSize + 1), Change: r.Intn(api.MaxNumber + 1), Indirect: block()}
	for i := range x.Direct {
		x.Direct[i] = block()
	}
	return x
}
