package space_test

import (
	"testing"

	"annex/api"
	"annex/space"
)

// TestP8_1Examples: the chapter's table, from the first data block on.
func TestP8_1Examples(t *testing.T) {
	g := groundOf(t, 20)
	d := g.l.Data
	first := func(want byte) {
		t.Helper()
		if b := g.bitmap(); b[0] != want || b[1] != 0 || b[2] != 0 {
			t.Fatalf("the bitmap begins %x, want %x", b[:3], want)
		}
	}
	g.alloc(d, api.OK)
	g.alloc(d+1, api.OK)
	g.alloc(d+2, api.OK)
	first(0x07)
	g.free(d+1, api.OK)
	g.free(d+1, api.ErrNotUsed)
	g.free(d-1, api.ErrNoData)
	g.free(d+20, api.ErrNoData)
	first(0x05)
	g.has(d, true, api.OK)
	g.has(d+1, false, api.OK)
	g.has(d+19, false, api.OK)
	g.used(2, api.OK)
	g.alloc(d+1, api.OK)
	g.alloc(d+3, api.OK)
	wrong := g.l
	wrong.BitsLen++
	all(t, "with BitsLen one more", api.ErrShape, func(c call) api.Errno { return c(g.x, wrong, d) })
	old := g.x
	g.commit()
	all(t, "behind Commit", api.ErrEnded, func(c call) api.Errno { return c(old, g.l, d) })
	if n, code := space.Used(g.x, g.l); n != 4 || code != api.OK {
		t.Errorf("Used behind Commit = %d, %d", n, code)
	}
}
