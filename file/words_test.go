package file_test

import (
	"bytes"
	"encoding/binary"
	"encoding/hex"
	"fmt"
	"maps"
	"math/rand"
	"slices"
	"strings"
	"testing"

	"annex/api"
	"annex/device"
	"annex/file"
	"annex/journal"
	"annex/plan"
)

// told is a second telling of the chapter, and of what it needs of the layers below: blocks are values, contents go byte by byte, and whoever meets an error gives up by a panic with it.
type told struct {
	l     api.Layout
	b     map[int][512]byte // each block outside the journal, as the transaction sees it
	wrote map[int]bool      // which of them it has written
}

func (w *told) clone() *told { return &told{w.l, maps.Clone(w.b), maps.Clone(w.wrote)} }

func (w *told) put(b int, data [512]byte) {
	if !w.wrote[b] && len(w.wrote) == 24 {
		panic(api.ErrTxBig)
	}
	w.b[b], w.wrote[b] = data, true
}

func (w *told) isData(b int) bool { return w.l.Data <= b && b <= w.l.Data+w.l.DataLen-1 }

func (w *told) inUse(b int) bool {
	i := b - w.l.Data
	return w.b[w.l.Bits][i>>3]>>(i&7)&1 == 1
}

func (w *told) turn(b int) {
	bitmap := w.b[w.l.Bits]
	bitmap[(b-w.l.Data)>>3] ^= 1 << ((b - w.l.Data) & 7)
	w.put(w.l.Bits, bitmap)
}

func (w *told) alloc() int {
	for b := w.l.Data; w.isData(b); b++ {
		if !w.inUse(b) {
			w.turn(b)
			return b
		}
	}
	panic(api.ErrSpace)
}

func (w *told) free(b int) {
	if !w.inUse(b) {
		panic(api.ErrNotUsed)
	}
	w.turn(b)
}

// record is for tables whose records may be.
func (w *told) record(x api.Inode) {
	if x.Kind != 1 && x.Kind != 2 || x.Change < 0 || x.Change > 1<<62 {
		panic(api.ErrArg)
	}
	s := x.Id & 255
	if x.Id < 256 || s >= w.l.Shape.Inodes {
		panic(api.ErrStale)
	}
	block := w.b[w.l.Table+s/4]
	was := block[s%4*128:][:128]
	if binary.BigEndian.Uint64(was) != uint64(x.Id>>8) || binary.BigEndian.Uint32(was[8:]) == 0 {
		panic(api.ErrStale)
	}
	if binary.BigEndian.Uint32(was[8:]) != uint32(x.Kind) {
		panic(api.ErrArg)
	}
	copy(was, recordByWords(x))
	w.put(w.l.Table+s/4, block)
}

func recordByWords(x api.Inode) []byte {
	s := fmt.Sprintf("%016x%08x%08x%016x", x.Id>>8, x.Kind, x.Size, x.Change)
	for _, b := range append(x.Direct[:], x.Indirect) {
		s += fmt.Sprintf("%08x", b)
	}
	b, err := hex.DecodeString(s + strings.Repeat("00", 68))
	if err != nil || len(b) != 128 {
		panic("a record that is none: " + s)
	}
	return b
}

// row is an inode of the telling, and the numbers of its indirect block as soon as they have been asked for.
type row struct {
	w   *told
	x   api.Inode
	far *[128]uint32
	was [128]uint32
}

func (r *row) number(p int) int {
	if p < 8 {
		return r.x.Direct[p]
	}
	if r.x.Indirect == 0 {
		return 0
	}
	if r.far == nil {
		block := r.w.b[r.x.Indirect]
		binary.Decode(block[:], binary.BigEndian, &r.was)
		far := r.was
		r.far = &far
	}
	b := int(r.far[p-8])
	if b != 0 && !r.w.isData(b) {
		panic(api.ErrBent)
	}
	return b
}

func (r *row) set(p, b int) {
	if p < 8 {
		r.x.Direct[p] = b
	} else {
		r.far[p-8] = uint32(b)
	}
}

// end is what Write and Cut do last.
func (r *row) end(size int) api.Inode {
	if r.x.Indirect != 0 && r.far != nil && *r.far != r.was {
		var block [512]byte
		binary.Encode(block[:], binary.BigEndian, r.far)
		r.w.put(r.x.Indirect, block)
	}
	r.x.Size = size
	r.w.record(r.x)
	return r.x
}

func (w *told) bent(x api.Inode) bool {
	bad := func(b int) bool { return b != 0 && !w.isData(b) }
	return x.Size < 0 || x.Size > 69632 || bad(x.Indirect) || slices.ContainsFunc(x.Direct[:], bad)
}

// gaveUp is deferred by the calls of the telling: an error that was met is the answer.
func gaveUp(code *api.Errno) {
	switch p := recover().(type) {
	case nil:
	case api.Errno:
		*code = p
	default:
		panic(p)
	}
}

func (w *told) read(x api.Inode, off, n int) (out []byte, code api.Errno) {
	defer gaveUp(&code)
	if off < 0 || n < 0 {
		return nil, api.ErrArg
	}
	if w.bent(x) {
		return nil, api.ErrBent
	}
	r := &row{w: w, x: x}
	for i := off; i < x.Size && i-off < n; i++ {
		if b := r.number(i / 512); b == 0 {
			out = append(out, 0)
		} else {
			out = append(out, w.b[b][i%512])
		}
	}
	return out, api.OK
}

// refusesWrite: the errors with which nothing has been done.
func (w *told) refusesWrite(x api.Inode, off int, data []byte) api.Errno {
	switch {
	case off < 0:
		return api.ErrArg
	case w.bent(x):
		return api.ErrBent
	case uint64(off)+uint64(len(data)) > 69632:
		return api.ErrFBig
	}
	return api.OK
}

func (w *told) write(x api.Inode, off int, data []byte) (y api.Inode, code api.Errno) {
	defer gaveUp(&code)
	if len(data) == 0 {
		return x, api.OK
	}
	r := &row{w: w, x: x}
	for p := off / 512; p <= (off+len(data)-1)/512; p++ {
		if p >= 8 && r.x.Indirect == 0 {
			r.x.Indirect, r.far = w.alloc(), new([128]uint32)
		}
		b := r.number(p)
		var block [512]byte
		if b != 0 {
			block = w.b[b]
		} else {
			b = w.alloc()
			r.set(p, b)
		}
		for i := range block {
			if at := 512*p + i - off; at >= 0 && at < len(data) {
				block[i] = data[at]
			}
		}
		w.put(b, block)
	}
	return r.end(max(x.Size, off+len(data))), api.OK
}

func (w *told) refusesCut(x api.Inode, size int) api.Errno {
	switch {
	case size < 0, size > x.Size:
		return api.ErrArg
	case w.bent(x):
		return api.ErrBent
	}
	return api.OK
}

func (w *told) cut(x api.Inode, size int) (y api.Inode, code api.Errno) {
	defer gaveUp(&code)
	r := &row{w: w, x: x}
	m := (size + 511) / 512
	for p := m; p < 136; p++ {
		if b := r.number(p); b != 0 {
			w.free(b)
			r.set(p, 0)
		}
	}
	if m <= 8 && x.Indirect != 0 {
		w.free(x.Indirect)
		r.x.Indirect = 0
	}
	if size%512 != 0 {
		if b := r.number(m - 1); b != 0 {
			block := w.b[b]
			for i := size % 512; i < 512; i++ {
				block[i] = 0
			}
			w.put(b, block)
		}
	}
	return r.end(size), api.OK
}

func (w *told) blocks(x api.Inode) (list []int, code api.Errno) {
	defer gaveUp(&code)
	if w.bent(x) {
		return nil, api.ErrBent
	}
	r := &row{w: w, x: x}
	all := []int{x.Indirect}
	for p := range 136 {
		all = append(all, r.number(p))
	}
	slices.Sort(all)
	return slices.DeleteFunc(all, func(b int) bool { return b == 0 }), api.OK
}

// ground is a layout, a device for it, a journal there, its open transaction, and what the second telling says of it.
type ground struct {
	t *testing.T
	l api.Layout
	d *device.Device
	j *journal.Journal
	x *journal.Tx
	w *told
}

func layoutOf(t *testing.T, data int) api.Layout {
	t.Helper()
	l, code := plan.Plan(api.Shape{Clients: 1, Window: 1, Places: 1, Cache: 1, Inodes: 3, Data: data, Journal: 27})
	if code != api.OK {
		t.Fatalf("Plan with %d data blocks: %d", data, code)
	}
	return l
}

// first and second are the inodes of a ground; there is none in the slot 2.
var (
	first  = api.Inode{Id: 256, Kind: 1, Change: 7}
	second = api.Inode{Id: 3<<8 | 1, Kind: 2, Change: 1 << 62}
)

// groundOf has noise in all blocks but the journal's: also in data blocks, in the bitmap behind their bits, in the table behind the slots. No data block is in use.
func groundOf(t *testing.T, data int) *ground {
	t.Helper()
	l := layoutOf(t, data)
	image := noise(int64(data), l.Total*512)
	for i := range data {
		image[l.Bits*512+i/8] &^= 1 << (i % 8)
	}
	table := image[l.Table*512:]
	copy(table, recordByWords(first))
	copy(table[128:], recordByWords(second))
	copy(table[256:], recordByWords(api.Inode{Id: 5 << 8}))
	return groundWith(t, l, image)
}

func groundWith(t *testing.T, l api.Layout, image []byte) *ground {
	t.Helper()
	d, code := device.Image(image)
	if code != api.OK {
		t.Fatalf("Image: %d", code)
	}
	if code := journal.Format(d, l.Journal, l.JournalLen); code != api.OK {
		t.Fatalf("Format: %d", code)
	}
	g := &ground{t: t, l: l, d: d, w: &told{l, map[int][512]byte{}, map[int]bool{}}}
	for b := range l.Total {
		if b < l.Journal || b >= l.Journal+l.JournalLen {
			g.w.b[b] = [512]byte(image[b*512:])
		}
	}
	g.open()
	return g
}

func noise(seed int64, n int) []byte {
	b := make([]byte, n)
	rand.New(rand.NewSource(seed)).Read(b)
	return b
}

func (g *ground) open() {
	g.t.Helper()
	j, _, code := journal.Open(g.d, g.l.Journal, g.l.JournalLen)
	if code != api.OK {
		g.t.Fatalf("Open: %d", code)
	}
	g.j = j
	g.begin()
}

func (g *ground) begin() {
	g.t.Helper()
	if g.x = g.j.Begin(); g.x == nil {
		g.t.Fatal("Begin: nil")
	}
	g.w.wrote = map[int]bool{}
}

func (g *ground) commit() {
	g.t.Helper()
	if code := g.x.Commit(); code != api.OK {
		g.t.Fatalf("Commit: %d", code)
	}
	g.begin()
}

// off lets the power fail.
func (g *ground) off() {
	g.d.Arm(1)
	g.d.Flush()
}

// lay writes a block by hand.
func (g *ground) lay(b int, data []byte) {
	g.t.Helper()
	if code := g.x.Write(b, data); code != api.OK {
		g.t.Fatalf("Write(%d): %d", b, code)
	}
	g.w.put(b, [512]byte(data))
}

// use lets data blocks be in use, by hand.
func (g *ground) use(list ...int) {
	g.t.Helper()
	bitmap := g.w.b[g.l.Bits]
	for _, b := range list {
		bitmap[(b-g.l.Data)/8] |= 1 << ((b - g.l.Data) % 8)
	}
	g.lay(g.l.Bits, bitmap[:])
}

// layNumbers writes an indirect block by hand.
func (g *ground) layNumbers(b int, numbers map[int]int) {
	g.t.Helper()
	block := make([]byte, 512)
	for p, n := range numbers {
		binary.BigEndian.PutUint32(block[(p-8)*4:], uint32(n))
	}
	g.lay(b, block)
}

// same asks for each block outside, and for which of them have been written.
func (g *ground) same(what string) {
	g.t.Helper()
	if got, want := g.x.Blocks(), slices.Sorted(maps.Keys(g.w.wrote)); !slices.Equal(got, want) {
		g.t.Fatalf("%s: the blocks %v have been written, want %v (Bits %d, Table %d, Data %d)", what, got, want, g.l.Bits, g.l.Table, g.l.Data)
	}
	for b, want := range g.w.b {
		if got, code := g.x.Read(b); code != api.OK || [512]byte(got) != want {
			g.t.Fatalf("%s: the block %d is another one (%d)", what, b, code)
		}
	}
}

// The calls, each held against the second telling. Behind an error with which a part may have been written, the transaction is taken back to what it was.

func (g *ground) read(x api.Inode, off, n int) ([]byte, api.Errno) {
	g.t.Helper()
	want, code := g.w.read(x, off, n)
	got, e := file.Read(g.x, g.l, x, off, n)
	if e != code || code == api.OK && !bytes.Equal(got, want) || code != api.OK && len(got) > 0 {
		g.t.Fatalf("Read(%+v, %d, %d) = %d bytes, %d, want %d bytes, %d; the same: %v", x, off, n, len(got), e, len(want), code, bytes.Equal(got, want))
	}
	return got, e
}

func (g *ground) write(x api.Inode, off int, data []byte) (api.Inode, api.Errno) {
	g.t.Helper()
	what := fmt.Sprintf("Write(%+v, %d, %d bytes)", x, off, len(data))
	return g.change(what, g.w.refusesWrite(x, off, data), func() (api.Inode, api.Errno) {
		return g.w.write(x, off, data)
	}, func() (api.Inode, api.Errno) {
		return file.Write(g.x, g.l, x, off, data)
	})
}

func (g *ground) cut(x api.Inode, size int) (api.Inode, api.Errno) {
	g.t.Helper()
	what := fmt.Sprintf("Cut(%+v, %d)", x, size)
	return g.change(what, g.w.refusesCut(x, size), func() (api.Inode, api.Errno) {
		return g.w.cut(x, size)
	}, func() (api.Inode, api.Errno) {
		return file.Cut(g.x, g.l, x, size)
	})
}

func (g *ground) change(what string, refused api.Errno, tells, does func() (api.Inode, api.Errno)) (api.Inode, api.Errno) {
	g.t.Helper()
	ahead := g.w.clone()
	mark, _ := g.x.Save()
	want, code := api.Inode{}, refused
	if refused == api.OK {
		want, code = tells()
	}
	got, e := does()
	if e != code || code == api.OK && got != want || code != api.OK && got != (api.Inode{}) {
		g.t.Fatalf("%s = %+v, %d, want %+v, %d (Data %d)", what, got, e, want, code, g.l.Data)
	}
	if refused == api.OK && code != api.OK {
		g.w = ahead
		if e := g.x.Back(mark); e != api.OK {
			g.t.Fatalf("Back: %d", e)
		}
	}
	g.same(what)
	return got, e
}

func (g *ground) blocks(x api.Inode) ([]int, api.Errno) {
	g.t.Helper()
	want, code := g.w.blocks(x)
	got, e := file.Blocks(g.x, g.l, x)
	if e != code || code == api.OK && !slices.Equal(got, want) || code != api.OK && len(got) > 0 {
		g.t.Fatalf("Blocks(%+v) = %v, %d, want %v, %d", x, got, e, want, code)
	}
	return got, e
}

// wrote and cutTo are for calls that must not be refused.

func (g *ground) wrote(x api.Inode, off int, data string) api.Inode {
	g.t.Helper()
	y, code := g.write(x, off, []byte(data))
	if code != api.OK {
		g.t.Fatalf("Write(%+v, %d, %d bytes) = %d", x, off, len(data), code)
	}
	return y
}

func (g *ground) cutTo(x api.Inode, size int) api.Inode {
	g.t.Helper()
	y, code := g.cut(x, size)
	if code != api.OK {
		g.t.Fatalf("Cut(%+v, %d) = %d", x, size, code)
	}
	return y
}

// filled is an inode whose pieces all have blocks, written over several transactions; and its bytes.
func (g *ground) filled(x api.Inode, size int) (api.Inode, []byte) {
	g.t.Helper()
	data := noise(int64(size), size)
	for off := 0; off < size; off += 4096 {
		x = g.wrote(x, off, string(data[off:min(size, off+4096)]))
		g.commit()
	}
	return x, data
}
