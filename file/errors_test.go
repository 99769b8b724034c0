package file_test

import (
	"bytes"
	"fmt"
	"math"
	"testing"

	"annex/api"
	"annex/device"
	"annex/file"
	"annex/journal"
)

// call is one of the package's. With an error its other result must be zero: if not, the call answers -1.
type call func(t *journal.Tx, l api.Layout) api.Errno

func unless(wrong bool, code api.Errno) api.Errno {
	if code != api.OK && wrong {
		return -1
	}
	return code
}

func readCall(x api.Inode, off, n int) call {
	return func(t *journal.Tx, l api.Layout) api.Errno {
		b, code := file.Read(t, l, x, off, n)
		return unless(len(b) > 0, code)
	}
}

func writeCall(x api.Inode, off, n int) call {
	return func(t *journal.Tx, l api.Layout) api.Errno {
		y, code := file.Write(t, l, x, off, make([]byte, n))
		return unless(y != api.Inode{}, code)
	}
}

func cutCall(x api.Inode, size int) call {
	return func(t *journal.Tx, l api.Layout) api.Errno {
		y, code := file.Cut(t, l, x, size)
		return unless(y != api.Inode{}, code)
	}
}

func blocksCall(x api.Inode) call {
	return func(t *journal.Tx, l api.Layout) api.Errno {
		list, code := file.Blocks(t, l, x)
		return unless(len(list) > 0, code)
	}
}

// asking are calls that ask the transaction for something; x has all its pieces, 5000 bytes.
func asking(x api.Inode) map[string]call {
	list := map[string]call{"Blocks": blocksCall(x)}
	for _, off := range []int{0, 511, 4000, 4095, 4096, 4999} {
		list[fmt.Sprint("Read ", off)] = readCall(x, off, 9)
		list[fmt.Sprint("Write ", off)] = writeCall(x, off, 9)
		list[fmt.Sprint("Write a whole piece ", off)] = writeCall(x, off/512*512, 512)
		list[fmt.Sprint("Write of a new one ", off)] = writeCall(first, off, 9)
		list[fmt.Sprint("Cut ", off)] = cutCall(x, off)
	}
	list["Write behind the end"] = writeCall(x, 6000, 1024)
	list["Cut to its size"] = cutCall(x, 5000)
	list["Cut of nothing"] = cutCall(first, 0)
	list["Cut of holes"] = cutCall(api.Inode{Id: 256, Kind: 1, Size: 69632}, 4096)
	list["Write that is stale"] = writeCall(api.Inode{Id: 4}, 0, 1)
	return list
}

// answer is a call, and what it answers whatever the transaction is.
type answer struct {
	c    call
	want api.Errno
}

// judged are calls that do not come to the transaction.
func judged(l api.Layout, x api.Inode) map[string]answer {
	bent := x
	bent.Direct[7] = l.Data - 1
	far := x
	far.Indirect = l.Data + l.DataLen
	holes := api.Inode{Id: 256, Kind: 1, Size: 69632}
	return map[string]answer{
		"Read below 0": {readCall(x, -1, 1), api.ErrArg}, "Read of less than nothing": {readCall(x, 0, -1), api.ErrArg},
		"Read of a bent one": {readCall(bent, 0, 1), api.ErrBent}, "Read of a bent one below 0": {readCall(bent, -1, 1), api.ErrArg},
		"Read with a bent indirect number": {readCall(far, 0, 0), api.ErrBent},
		"Read of nothing":                  {readCall(x, 4, 0), api.OK}, "Read at the end": {readCall(x, 5000, 1), api.OK}, "Read far behind it": {readCall(x, math.MaxInt, math.MaxInt), api.OK},
		"Read of holes": {readCall(holes, 4000, 9999), api.OK}, "Blocks of holes": {blocksCall(holes), api.OK},
		"Write below 0": {writeCall(bent, -1, 1), api.ErrArg}, "Write into a bent one": {writeCall(bent, 69632, 1), api.ErrBent},
		"Write with a bent indirect number": {writeCall(far, 0, 0), api.ErrBent},
		"Write too far":                     {writeCall(x, 69632, 1), api.ErrFBig}, "Write of nothing too far": {writeCall(x, 69633, 0), api.ErrFBig},
		"Write of nothing": {writeCall(x, 69632, 0), api.OK},
		"Cut below 0":      {cutCall(bent, -1), api.ErrArg}, "Cut behind the end": {cutCall(bent, 5001), api.ErrArg}, "Cut of a bent one": {cutCall(bent, 5000), api.ErrBent},
		"Cut with a bent indirect number": {cutCall(far, 0), api.ErrBent},
		"Blocks of a bent one":            {blocksCall(bent), api.ErrBent}, "Blocks with a bent indirect number": {blocksCall(far), api.ErrBent},
	}
}

// each asks for one answer of all calls that ask the transaction; the others answer what they always do.
func each(t *testing.T, what string, x *journal.Tx, l api.Layout, y api.Inode, want api.Errno) {
	t.Helper()
	always(t, what, x, l, y)
	for name, c := range asking(y) {
		if code := c(x, l); code != want {
			t.Errorf("%s: %s = %d, want %d", what, name, code, want)
		}
	}
	always(t, what, x, l, y)
}

func always(t *testing.T, what string, x *journal.Tx, l api.Layout, y api.Inode) {
	t.Helper()
	for name, a := range judged(l, y) {
		if code := a.c(x, l); code != a.want {
			t.Errorf("%s: %s = %d, want %d", what, name, code, a.want)
		}
	}
}

// TestP10_1Ended: behind Commit, behind Drop, and where there is none.
func TestP10_1Ended(t *testing.T) {
	g := groundOf(t, 24)
	y, _ := g.filled(first, 5000)
	old := g.x
	always(t, "open", old, g.l, y)
	g.commit()
	each(t, "behind Commit", old, g.l, y, api.ErrEnded)
	old = g.x
	old.Drop()
	each(t, "behind Drop", old, g.l, y, api.ErrEnded)
	g.begin()
	each(t, "Begin while another one is open", g.j.Begin(), g.l, y, api.ErrEnded)
	each(t, "none", nil, g.l, y, api.ErrEnded)
	g.off()
	each(t, "behind Drop, without power", old, g.l, y, api.ErrEnded)
}

// TestP10_1Power: the call that meets it, and those behind it; a call that does not come to the transaction does not meet it.
func TestP10_1Power(t *testing.T) {
	for name := range asking(first) {
		g := groundOf(t, 24)
		y, _ := g.filled(first, 5000)
		g.lay(g.l.Boot, make([]byte, 512))
		g.off()
		always(t, name, g.x, g.l, y)
		if code := asking(y)[name](g.x, g.l); code != api.ErrPower {
			t.Errorf("without power: %s = %d", name, code)
		}
		each(t, "behind "+name, g.x, g.l, y, api.ErrEnded)
	}
}

// TestP10_2TxBig: with each number of blocks that the transaction has written already, what may be written is written, in the chapter's order.
func TestP10_2TxBig(t *testing.T) {
	for many := range 25 {
		for i, c := range []func(g *ground, x api.Inode) api.Errno{
			func(g *ground, x api.Inode) api.Errno { _, code := g.write(x, 100, make([]byte, 1024)); return code },
			func(g *ground, x api.Inode) api.Errno { _, code := g.write(second, 0, make([]byte, 1024)); return code },
			func(g *ground, x api.Inode) api.Errno {
				_, code := g.write(second, 3700, make([]byte, 1024))
				return code
			},
			func(g *ground, x api.Inode) api.Errno { _, code := g.write(x, 4900, make([]byte, 1024)); return code },
			func(g *ground, x api.Inode) api.Errno { _, code := g.cut(x, 4999); return code },
			func(g *ground, x api.Inode) api.Errno { _, code := g.cut(x, 4500); return code },
			func(g *ground, x api.Inode) api.Errno { _, code := g.cut(x, 512); return code },
			func(g *ground, x api.Inode) api.Errno { _, code := g.cut(x, 0); return code },
			func(g *ground, x api.Inode) api.Errno { _, code := g.cut(x, 500); return code },
		} {
			g := groundOf(t, 60)
			x, _ := g.filled(first, 5000)
			g.fill(many)
			needs := []int{4, 4, 6, 6, 2, 4, 2, 2, 3}[i]
			want := api.OK
			if many+needs > 24 {
				want = api.ErrTxBig
			}
			if code := c(g, x); code != want {
				t.Errorf("%d blocks are written: the call %d = %d, want %d", many, i, code, want)
			}
			g.read(x, 0, 9999)
			g.blocks(x)
		}
	}
}

// TestP10_2GreatWrites: more pieces than a transaction has blocks.
func TestP10_2GreatWrites(t *testing.T) {
	g := groundOf(t, 140)
	for _, c := range []struct {
		n    int
		want api.Errno
	}{{69632, api.ErrTxBig}, {21 * 512, api.OK}, {22 * 512, api.ErrTxBig}} {
		g.x.Drop()
		g.w = &told{g.l, g.was(), nil}
		g.begin()
		_, code := g.write(first, 0, noise(1, c.n))
		is(t, fmt.Sprint("Write of ", c.n, " bytes"), code, c.want)
	}
}

// TestP10_1OtherPlaces: a device that does not have the blocks: what the transaction answers goes up.
func TestP10_1OtherPlaces(t *testing.T) {
	l := layoutOf(t, 24)
	d := device.New(l.Bits)
	journal.Format(d, l.Journal, l.JournalLen)
	j, _, code := journal.Open(d, l.Journal, l.JournalLen)
	is(t, "Open", code, api.OK)
	x := api.Inode{Id: 256, Kind: 1, Size: 5000, Direct: [8]int{l.Data, l.Data + 1, l.Data + 2, l.Data + 3, l.Data + 4, l.Data + 5, l.Data + 6, l.Data + 7}, Indirect: l.Data + 8}
	tx := j.Begin()
	always(t, "no place", tx, l, x)
	for name, c := range asking(x) {
		want := api.ErrPlace
		if code := c(tx, l); code != want {
			t.Errorf("no place: %s = %d, want %d", name, code, want)
		}
	}
	if list := tx.Blocks(); len(list) > 0 {
		t.Errorf("the blocks %v have been written", list)
	}
}

// TestP10_2NothingDone: of a call that is refused for its own arguments or for x.
func TestP10_2NothingDone(t *testing.T) {
	g := groundOf(t, 24)
	y, _ := g.filled(first, 5000)
	for name, a := range judged(g.l, y) {
		a.c(g.x, g.l)
		g.same(name)
	}
	if list := g.x.Blocks(); len(list) > 0 {
		t.Errorf("the blocks %v have been written", list)
	}
}

// TestP0_1AnyLayout: of one that Plan does not give, each call ends and none panics.
func TestP0_1AnyLayout(t *testing.T) {
	g := groundOf(t, 24)
	y, _ := g.filled(first, 5000)
	odd := []int{math.MinInt, math.MinInt + 1, -1 << 32, -1, 0, 1, 255, 4096, 1 << 32, math.MaxInt - 1, math.MaxInt}
	for i := range 8 {
		for _, v := range odd {
			l := g.l
			*[]*int{&l.Shape.Inodes, &l.Table, &l.Data, &l.DataLen, &l.TableLen, &l.Bits, &l.BitsLen, &l.Journal}[i] = v
			for _, b := range append(odd, y.Direct[0]) {
				x := y
				x.Direct[0], x.Indirect = b, b
				anyCalls(g.x, l, x)
				anyCalls(nil, l, x)
				g.x.Drop()
				g.begin()
			}
			anyCalls(g.x, l, y)
			g.x.Drop()
			g.begin()
		}
	}
	anyCalls(g.x, api.Layout{}, y)
	all := api.Layout{DataLen: math.MaxInt}
	g.x.Drop()
	g.begin()
	g.x.Write(y.Indirect, bytes.Repeat([]byte{0xff}, 512))
	anyCalls(g.x, all, y)
}

func anyCalls(x *journal.Tx, l api.Layout, y api.Inode) {
	for _, c := range asking(y) {
		c(x, l)
	}
	for _, a := range judged(l, y) {
		a.c(x, l)
	}
}
