package space_test

import (
	"math/rand"
	"slices"
	"testing"

	"annex/api"
	"annex/device"
	"annex/journal"
	"annex/plan"
	"annex/space"
)

// told is a second telling of the chapter: a truth value a data block, in order.
type told []bool

func (w told) alloc(l api.Layout) (int, api.Errno) {
	i := slices.Index(w, false)
	if i < 0 {
		return 0, api.ErrSpace
	}
	w[i] = true
	return l.Data + i, api.OK
}

func (w told) free(l api.Layout, b int) api.Errno {
	for i := range w {
		if l.Data+i == b {
			if !w[i] {
				return api.ErrNotUsed
			}
			w[i] = false
			return api.OK
		}
	}
	return api.ErrNoData
}

func (w told) has(l api.Layout, b int) (bool, api.Errno) {
	for i := range w {
		if l.Data+i == b {
			return w[i], api.OK
		}
	}
	return false, api.ErrNoData
}

func (w told) used() int {
	n := 0
	for _, u := range w {
		if u {
			n++
		}
	}
	return n
}

// laid is a bitmap's block with those bits, and behind them what stood in that one.
func (w told) laid(was []byte) []byte {
	var all []bool
	for _, x := range was {
		for range 8 {
			all = append(all, x%2 == 1)
			x /= 2
		}
	}
	copy(all, w)
	b := make([]byte, len(was))
	for i, u := range slices.Backward(all) {
		b[i/8] *= 2
		if u {
			b[i/8]++
		}
	}
	return b
}

// lengths are numbers of data blocks: the least one, around the ends of bytes, the greatest one.
var lengths = []int{8, 9, 15, 16, 17, 20, 23, 24, 63, 64, 65, 100, 255, 256, 257, greatest}

// greatest is how many data blocks the least of shapes has room for.
const greatest = 4061

func layoutOf(t *testing.T, data int) api.Layout {
	t.Helper()
	l, code := plan.Plan(api.Shape{Clients: 1, Window: 1, Places: 1, Cache: 1, Inodes: 2, Data: data, Journal: 27})
	if code != api.OK {
		t.Fatalf("Plan with %d data blocks: %d", data, code)
	}
	return l
}

// ground is a layout, a device for it, a journal there and its open transaction.
type ground struct {
	t *testing.T
	l api.Layout
	d *device.Device
	j *journal.Journal
	x *journal.Tx
}

// groundOf has noise in all blocks but the journal's and the bitmap's; that one is zeros.
func groundOf(t *testing.T, data int) *ground {
	t.Helper()
	return groundWith(t, data, make([]byte, 512))
}

func groundWith(t *testing.T, data int, bitmap []byte) *ground {
	t.Helper()
	l := layoutOf(t, data)
	image := noise(int64(data), l.Total*512)
	copy(image[l.Bits*512:], bitmap)
	d, code := device.Image(image)
	if code != api.OK {
		t.Fatalf("Image: %d", code)
	}
	if code := journal.Format(d, l.Journal, l.JournalLen); code != api.OK {
		t.Fatalf("Format: %d", code)
	}
	g := &ground{t: t, l: l, d: d}
	g.open()
	return g
}

func noise(seed int64, n int) []byte {
	b := make([]byte, n)
	rand.New(rand.NewSource(seed)).Read(b)
	return b
}

func (g *ground) open() {
	g.t.Helper()
	j, _, code := journal.Open(g.d, g.l.Journal, g.l.JournalLen)
	if code != api.OK {
		g.t.Fatalf("Open: %d", code)
	}
	g.j = j
	g.begin()
}

func (g *ground) begin() {
	g.t.Helper()
	if g.x = g.j.Begin(); g.x == nil {
		g.t.Fatal("Begin: nil")
	}
}

func (g *ground) commit() {
	g.t.Helper()
	if code := g.x.Commit(); code != api.OK {
		g.t.Fatalf("Commit: %d", code)
	}
	g.begin()
}

// off lets the power fail.
func (g *ground) off() {
	g.d.Arm(1)
	g.d.Flush()
}

func (g *ground) alloc(b int, want api.Errno) {
	g.t.Helper()
	if got, code := space.Alloc(g.x, g.l); got != b || code != want {
		g.t.Fatalf("Alloc = %d, %d, want %d, %d (the data blocks: %d from %d on)", got, code, b, want, g.l.DataLen, g.l.Data)
	}
}

func (g *ground) free(b int, want api.Errno) {
	g.t.Helper()
	if code := space.Free(g.x, g.l, b); code != want {
		g.t.Fatalf("Free(%d) = %d, want %d (the data blocks: %d from %d on)", b, code, want, g.l.DataLen, g.l.Data)
	}
}

func (g *ground) has(b int, want bool, code api.Errno) {
	g.t.Helper()
	if got, e := space.Has(g.x, g.l, b); got != want || e != code {
		g.t.Fatalf("Has(%d) = %v, %d, want %v, %d (the data blocks: %d from %d on)", b, got, e, want, code, g.l.DataLen, g.l.Data)
	}
}

func (g *ground) used(n int, want api.Errno) {
	g.t.Helper()
	if got, code := space.Used(g.x, g.l); got != n || code != want {
		g.t.Fatalf("Used = %d, %d, want %d, %d (%d data blocks)", got, code, n, want, g.l.DataLen)
	}
}

// bitmap is the block as the transaction sees it.
func (g *ground) bitmap() []byte {
	g.t.Helper()
	b, code := g.x.Read(g.l.Bits)
	if code != api.OK {
		g.t.Fatalf("Read of the bitmap: %d", code)
	}
	return b
}

// lay writes the bitmap by hand.
func (g *ground) lay(b []byte) {
	g.t.Helper()
	if code := g.x.Write(g.l.Bits, b); code != api.OK {
		g.t.Fatalf("Write of the bitmap: %d", code)
	}
}

// full is a list in which all are in use.
func full(n int) told { return slices.Repeat(told{true}, n) }

// notData are blocks that are no data blocks of a layout, and numbers of no block.
func notData(l api.Layout) []int {
	return []int{
		-1 << 63, -1<<63 + l.Data, -1 << 32, -l.Data, -1, 0, 1, l.Journal, l.Ledger, l.Bits, l.Table, l.Data - 1,
		l.Data + l.DataLen, l.Data + l.DataLen + 1, 4096, 1 << 32, 1<<32 + l.Data, 1<<63 - 1,
	}
}
