package space_test

import (
	"bytes"
	"slices"
	"testing"

	"annex/api"
	"annex/space"
)

// outside is every block that the transaction may read, as it sees it.
func (g *ground) outside() map[int][]byte {
	list := map[int][]byte{}
	for b := range g.l.Total {
		if data, code := g.x.Read(b); code == api.OK {
			list[b] = data
		}
	}
	return list
}

// TestP8_5BlocksWritten: the bitmap's block where a bit changes, none else.
func TestP8_5BlocksWritten(t *testing.T) {
	g := groundOf(t, 70)
	d := g.l.Data
	blocks := func(what string, want ...int) {
		t.Helper()
		if got := g.x.Blocks(); !slices.Equal(got, want) {
			t.Errorf("%s: the blocks %v were written, want %v", what, got, want)
		}
	}
	g.has(d, false, api.OK)
	g.used(0, api.OK)
	g.free(d, api.ErrNotUsed)
	g.free(d-1, api.ErrNoData)
	blocks("Has, Used, and Free of what is not in use")
	was := g.outside()
	g.alloc(d, api.OK)
	blocks("Alloc", g.l.Bits)
	g.commit()
	g.has(d, true, api.OK)
	g.used(1, api.OK)
	blocks("Has and Used")
	g.free(d, api.OK)
	blocks("Free", g.l.Bits)
	for b, data := range g.outside() {
		if !bytes.Equal(data, was[b]) {
			t.Errorf("the block %d has changed", b)
		}
	}
}

// TestP8_5NoSavepoint: the calls make none, and take none away.
func TestP8_5NoSavepoint(t *testing.T) {
	g := groundOf(t, 20)
	for mark := 1; mark < 8; mark += 2 {
		first, _ := g.x.Save()
		space.Alloc(g.x, g.l)
		space.Free(g.x, g.l, g.l.Data)
		space.Has(g.x, g.l, g.l.Data)
		space.Used(g.x, g.l)
		second, _ := g.x.Save()
		if first != mark || second != mark+1 {
			t.Errorf("the marks %d and %d, want %d and the next one", first, second, mark)
		}
	}
	if code := g.x.Back(1); code != api.OK {
		t.Errorf("Back(1) = %d", code)
	}
}

// TestP8_5TakenBack: what was done behind a savepoint is undone, and may be done again.
func TestP8_5TakenBack(t *testing.T) {
	g := groundOf(t, 20)
	d := g.l.Data
	g.alloc(d, api.OK)
	g.alloc(d+1, api.OK)
	mark, _ := g.x.Save()
	g.alloc(d+2, api.OK)
	g.free(d, api.OK)
	for range 2 {
		g.x.Back(mark)
		g.used(2, api.OK)
		g.has(d, true, api.OK)
		g.has(d+2, false, api.OK)
		g.free(d+2, api.ErrNotUsed)
		g.alloc(d+2, api.OK)
	}
}

// TestP8_5Dropped: nothing of it stays, of a transaction with an earlier one behind it too.
func TestP8_5Dropped(t *testing.T) {
	g := groundOf(t, 20)
	d := g.l.Data
	for range 2 {
		g.alloc(d, api.OK)
		g.x.Drop()
		g.begin()
		g.used(0, api.OK)
	}
	g.alloc(d, api.OK)
	g.alloc(d+1, api.OK)
	g.commit()
	g.free(d, api.OK)
	g.x.Drop()
	g.begin()
	g.has(d, true, api.OK)
	g.alloc(d+2, api.OK)
}

// TestP8_5Committed: it is there for later ones, in the log alone, at home, and opened anew.
func TestP8_5Committed(t *testing.T) {
	g := groundOf(t, 20)
	d := g.l.Data
	there := func() {
		t.Helper()
		g.used(2, api.OK)
		g.has(d, true, api.OK)
		g.has(d+1, false, api.OK)
		g.has(d+2, true, api.OK)
	}
	for i := range 3 {
		g.alloc(d+i, api.OK)
	}
	g.free(d+1, api.OK)
	g.commit()
	there()
	if code := g.j.Check(); code != api.OK {
		t.Fatalf("Check: %d", code)
	}
	there()
	home, _ := g.d.Read(g.l.Bits)
	if home[0] != 0x05 {
		t.Errorf("the device has %x", home[:3])
	}
	g.d.Crash(nil)
	g.open()
	there()
	g.alloc(d+1, api.OK)
}
