package space_test

import (
	"bytes"
	"testing"

	"annex/api"
)

// TestP8_2Each: every data block is given back, the others stay.
func TestP8_2Each(t *testing.T) {
	for _, n := range lengths[:len(lengths)-1] {
		g := groundOf(t, n)
		for i := range n {
			behind := noise(int64(i), 512)
			w := full(n)
			g.lay(w.laid(behind))
			g.free(g.l.Data+i, api.OK)
			g.has(g.l.Data+i, false, api.OK)
			w[i] = false
			if !bytes.Equal(g.bitmap(), w.laid(behind)) {
				t.Fatalf("%d data blocks: Free of the place %d leaves %x", n, i, g.bitmap())
			}
			g.free(g.l.Data+i, api.ErrNotUsed)
			if !bytes.Equal(g.bitmap(), w.laid(behind)) {
				t.Fatalf("%d data blocks: a second Free of the place %d leaves %x", n, i, g.bitmap())
			}
		}
	}
}

// TestP8_2TheOnlyOne: the one that is in use, and each beside it.
func TestP8_2TheOnlyOne(t *testing.T) {
	g := groundOf(t, 25)
	for i := range 25 {
		w := make(told, 25)
		w[i] = true
		g.lay(w.laid(make([]byte, 512)))
		for k := range 25 {
			if k != i {
				g.free(g.l.Data+k, api.ErrNotUsed)
			}
		}
		g.used(1, api.OK)
		g.free(g.l.Data+i, api.OK)
		g.used(0, api.OK)
	}
}

func TestP8_2NoDataBlock(t *testing.T) {
	for _, n := range lengths {
		for _, bitmap := range [][]byte{make([]byte, 512), bytes.Repeat([]byte{0xff}, 512)} {
			g := groundWith(t, n, bitmap)
			for _, b := range notData(g.l) {
				g.free(b, api.ErrNoData)
			}
			if !bytes.Equal(g.bitmap(), bitmap) || len(g.x.Blocks()) > 0 {
				t.Errorf("%d data blocks: Free of none of them wrote the blocks %v", n, g.x.Blocks())
			}
		}
	}
}

// TestP8_2TheEnds: the first and the last data block, of the greatest bitmap too.
func TestP8_2TheEnds(t *testing.T) {
	for _, n := range lengths {
		g := groundWith(t, n, full(n).laid(make([]byte, 512)))
		g.free(g.l.Data+n-1, api.OK)
		g.used(n-1, api.OK)
		g.alloc(g.l.Data+n-1, api.OK)
		g.free(g.l.Data, api.OK)
		g.free(g.l.Data+n-1, api.OK)
		g.used(n-2, api.OK)
		g.alloc(g.l.Data, api.OK)
		g.alloc(g.l.Data+n-1, api.OK)
		g.alloc(0, api.ErrSpace)
	}
}
