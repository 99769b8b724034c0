package space_test

import (
	"bytes"
	"testing"

	"annex/api"
	"annex/device"
	"annex/journal"
	"annex/plan"
	"annex/space"
)

// call is one of the package's, of a block where it has one. With an error its other result must be zero: if not, the call answers -1.
type call func(x *journal.Tx, l api.Layout, b int) api.Errno

func allocCall(x *journal.Tx, l api.Layout, _ int) api.Errno {
	n, code := space.Alloc(x, l)
	return unless(code != api.OK && n != 0, code)
}

func hasCall(x *journal.Tx, l api.Layout, b int) api.Errno {
	u, code := space.Has(x, l, b)
	return unless(code != api.OK && u, code)
}

func usedCall(x *journal.Tx, l api.Layout, _ int) api.Errno {
	n, code := space.Used(x, l)
	return unless(code != api.OK && n != 0, code)
}

func unless(wrong bool, code api.Errno) api.Errno {
	if wrong {
		return -1
	}
	return code
}

// ofBlocks are the calls that have a block.
func ofBlocks() map[string]call { return map[string]call{"Free": space.Free, "Has": hasCall} }

// all asks for one answer of the four calls.
func all(t *testing.T, what string, want api.Errno, ask func(c call) api.Errno) {
	t.Helper()
	for name, c := range map[string]call{"Alloc": allocCall, "Free": space.Free, "Has": hasCall, "Used": usedCall} {
		if code := ask(c); code != want {
			t.Errorf("%s: %s = %d, want %d", what, name, code, want)
		}
	}
}

// bents are layouts that Plan does not answer for their shapes.
func bents(l api.Layout) []api.Layout {
	list := []api.Layout{{}, {DataLen: 8, BitsLen: 1}, {Bits: 1, BitsLen: 1, Data: 2, DataLen: 8, Total: 10}}
	bend := func(of func(l *api.Layout) *int) {
		for _, by := range []int{-1, 1, 8, 1 << 32, 1<<63 - 1, -1 << 63} {
			m := l
			*of(&m) += by
			list = append(list, m)
		}
	}
	for i := range 12 {
		bend(func(l *api.Layout) *int {
			return []*int{
				&l.Boot, &l.Journal, &l.JournalLen, &l.Ledger, &l.LedgerLen, &l.Bits, &l.BitsLen,
				&l.Table, &l.TableLen, &l.Data, &l.DataLen, &l.Total,
			}[i]
		})
	}
	bend(func(l *api.Layout) *int { return &l.Shape.Data })
	bend(func(l *api.Layout) *int { return &l.Shape.Cache })
	bend(func(l *api.Layout) *int { return &l.Shape.Journal })
	m := l
	m.Shape.Clients = 9
	list = append(list, m)
	m = l
	m.Shape.Window = 0
	list = append(list, m)
	m = l // laid out well, but it has no room
	m.Shape.Data, m.DataLen, m.Total = 7, 7, m.Total-m.DataLen+7
	return append(list, m)
}

// TestP8_5ShapeFirst: whatever the block and the transaction are; the transaction does not hear of it.
func TestP8_5ShapeFirst(t *testing.T) {
	for _, n := range []int{8, 20} {
		g := groundWith(t, n, full(n).laid(make([]byte, 512)))
		shape := func(what string, x *journal.Tx) {
			t.Helper()
			for _, m := range bents(g.l) {
				for _, b := range []int{g.l.Data, m.Data, m.Data + m.DataLen - 1, -1, 0, 1<<63 - 1} {
					all(t, what, api.ErrShape, func(c call) api.Errno { return c(x, m, b) })
				}
			}
		}
		shape("open", g.x)
		if len(g.x.Blocks()) > 0 {
			t.Errorf("a call with another layout wrote the blocks %v", g.x.Blocks())
		}
		shape("no transaction", nil)
		old := g.x
		g.commit()
		shape("behind Commit", old)
		g.off()
		shape("without power", g.x)
		g.used(0, api.ErrPower)
		shape("ended", g.x)
	}
}

// TestP8_5OtherShapes: a layout is judged by its own shape.
func TestP8_5OtherShapes(t *testing.T) {
	for _, s := range []api.Shape{
		{Clients: 2, Window: 4, Places: 4, Cache: 8, Inodes: 16, Quota: 8192, Data: 80, Journal: 27},
		{Clients: 8, Window: 8, Places: 8, Cache: 64, Inodes: 256, Quota: 524288, Data: 3324, Journal: 512},
	} {
		l, _ := plan.Plan(s)
		d := device.New(l.Total)
		journal.Format(d, l.Journal, l.JournalLen)
		g := &ground{t: t, l: l, d: d}
		g.open()
		for i := range s.Data {
			g.alloc(l.Data+i, api.OK)
		}
		g.alloc(0, api.ErrSpace)
		g.free(l.Data+s.Data-1, api.OK)
		g.used(s.Data-1, api.OK)
	}
}

// TestP8_2NoDataAheadOfTheTransaction: ErrNoData comes first, and the transaction does not hear of it.
func TestP8_2NoDataAheadOfTheTransaction(t *testing.T) {
	g := groundOf(t, 20)
	noData := func(what string, x *journal.Tx) {
		t.Helper()
		for name, c := range ofBlocks() {
			for _, b := range notData(g.l) {
				if code := c(x, g.l, b); code != api.ErrNoData {
					t.Errorf("%s: %s(%d) = %d", what, name, b, code)
				}
			}
		}
	}
	noData("no transaction", nil)
	old := g.x
	g.commit()
	noData("behind Commit", old)
	g.off()
	noData("without power", g.x)
	g.free(g.l.Data, api.ErrPower)
	noData("ended", g.x)
	g.free(g.l.Data, api.ErrEnded)
}

// TestP8_5Ended: behind Commit, behind Drop, and where there is none.
func TestP8_5Ended(t *testing.T) {
	g := groundWith(t, 20, full(20).laid(make([]byte, 512)))
	ended := func(what string, x *journal.Tx) {
		t.Helper()
		for _, b := range []int{g.l.Data, g.l.Data + 19} {
			all(t, what, api.ErrEnded, func(c call) api.Errno { return c(x, g.l, b) })
		}
	}
	first := g.x
	g.commit()
	ended("behind Commit", first)
	second := g.x
	second.Drop()
	ended("behind Drop", second)
	g.begin()
	ended("Begin while another one is open", g.j.Begin())
	g.off()
	ended("behind Commit, without power", first)
}

// TestP8_5Power: the call that meets it, and those behind it.
func TestP8_5Power(t *testing.T) {
	for _, bitmap := range []told{make(told, 20), full(20)} {
		for _, written := range []bool{false, true} {
			all(t, "without power", api.ErrPower, func(c call) api.Errno {
				g := groundWith(t, 20, bitmap.laid(make([]byte, 512)))
				if written {
					g.lay(g.bitmap())
				}
				g.off()
				code := c(g.x, g.l, g.l.Data+5)
				all(t, "behind it", api.ErrEnded, func(c call) api.Errno { return c(g.x, g.l, g.l.Data+5) })
				return code
			})
		}
	}
}

// TestP8_5OtherPlaces: a device or a journal that is not the layout's: what Read answers goes up.
func TestP8_5OtherPlaces(t *testing.T) {
	l := layoutOf(t, 20)
	for _, c := range []struct{ size, start, length int }{
		{l.Bits, 0, 27},
		{l.Total, 0, l.Bits + 1},
		{l.Total, l.Bits, 27},
	} {
		if c.size < c.start+c.length {
			c.size = c.start + c.length
		}
		d := device.New(c.size)
		journal.Format(d, c.start, c.length)
		j, _, code := journal.Open(d, c.start, c.length)
		if code != api.OK {
			t.Fatalf("Open: %d", code)
		}
		x := j.Begin()
		all(t, "no place for the bitmap", api.ErrPlace, func(c call) api.Errno { return c(x, l, l.Data) })
	}
}

// crowded is a ground whose transaction has written so many blocks beside the bitmap.
func crowded(t *testing.T, bitmap told, others int) *ground {
	t.Helper()
	g := groundWith(t, len(bitmap), bitmap.laid(make([]byte, 512)))
	for i := range others {
		if code := g.x.Write(g.l.Data+i, make([]byte, 512)); code != api.OK {
			t.Fatalf("Write: %d", code)
		}
	}
	return g
}

// TestP8_5TxBig: what Write answers goes up, and nothing is written; where nothing is to be written it is not asked.
func TestP8_5TxBig(t *testing.T) {
	w := make(told, 30)
	w[0], w[29] = true, true
	g := crowded(t, w, 24)
	was := g.bitmap()
	g.alloc(0, api.ErrTxBig)
	g.free(g.l.Data, api.ErrTxBig)
	g.free(g.l.Data+29, api.ErrTxBig)
	g.free(g.l.Data+1, api.ErrNotUsed)
	g.has(g.l.Data, true, api.OK)
	g.has(g.l.Data+1, false, api.OK)
	g.used(2, api.OK)
	if !bytes.Equal(g.bitmap(), was) || len(g.x.Blocks()) != 24 {
		t.Errorf("with an error %v were written", g.x.Blocks())
	}
	g = crowded(t, full(30), 24)
	g.alloc(0, api.ErrSpace)

	g = crowded(t, w, 23)
	g.alloc(g.l.Data+1, api.OK)
	g.free(g.l.Data, api.OK)
	if len(g.x.Blocks()) != 24 {
		t.Errorf("the blocks %v were written", g.x.Blocks())
	}
}
