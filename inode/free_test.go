package inode_test

import (
	"bytes"
	"testing"

	"annex/api"
)

// TestP9_4AllButTheGeneration: it becomes zeros, of each slot and whatever it was used for.
func TestP9_4AllButTheGeneration(t *testing.T) {
	for seed := range int64(40) {
		l := layoutOf(t, slotNumbers[seed%11])
		w := filled(l, seed)
		g := groundWith(t, l, w)
		was := g.table()
		for s, p := range w {
			id := p.uses<<8 | s
			want := w.free(id)
			g.free(id, want)
			g.free(id, api.ErrStale)
			g.get(id, api.Inode{}, api.ErrStale)
			if !bytes.Equal(g.table(), w.laid(was)) {
				t.Fatalf("behind Free(%d) the table is another one", id)
			}
		}
		g.all(nil, api.OK)
	}
}

// TestP9_4Stale: Get's errors; nothing is written.
func TestP9_4Stale(t *testing.T) {
	g := groundOf(t, 6)
	g.new(1, api.Inode{Id: 256, Kind: 1, Change: 1}, api.OK)
	g.commit()
	for _, id := range append([]int{257, 261, 262, 511, 512, 513}, strangeIds...) {
		g.free(id, api.ErrStale)
	}
	g.wrote("a Free that was refused")
	g.all([]api.Inode{{Id: 256, Kind: 1, Change: 1}}, api.OK)
}

// TestP9_4ItsBlocks: what stands in an inode's blocks, and the bitmap, are not touched.
func TestP9_4ItsBlocks(t *testing.T) {
	g := groundOf(t, 6)
	g.new(1, api.Inode{Id: 256, Kind: 1, Change: 1}, api.OK)
	g.put(sample(g.l, 256, 1), api.OK)
	was := g.outside()
	g.free(256, api.OK)
	for b, data := range g.outside() {
		if b != g.l.Table && !bytes.Equal(data, was[b]) {
			t.Errorf("Free has changed the block %d", b)
		}
	}
}
