package inode_test

import (
	"slices"
	"testing"

	"annex/api"
	"annex/inode"
)

// TestP9_5BySlots: of tables by chance.
func TestP9_5BySlots(t *testing.T) {
	for seed := range int64(80) {
		l := layoutOf(t, slotNumbers[seed%15])
		w := filled(l, seed)
		g := groundWith(t, l, w)
		g.all(w.all(), api.OK)
		g.wrote("All")
	}
}

// TestP9_5NoneAndAll: no slot in use, each one alone, all of them.
func TestP9_5NoneAndAll(t *testing.T) {
	for _, n := range []int{2, 3, 4, 5, 6, 9, 16} {
		l := layoutOf(t, n)
		g := groundOf(t, n)
		g.all(nil, api.OK)
		full := make(told, n)
		for s := range n {
			w := make(told, n)
			w[s] = place{3, true, sample(l, 3<<8|s, 1+s%2)}
			full[s] = w[s]
			g := groundWith(t, l, w)
			g.all([]api.Inode{w[s].x}, api.OK)
		}
		g = groundWith(t, l, full)
		g.all(full.all(), api.OK)
	}
}

// TestP9_5AnyRecord: one that may not be, at any slot, in use or free.
func TestP9_5AnyRecord(t *testing.T) {
	bad := place{uses: lastUse + 1}.record()
	for _, n := range []int{2, 5, 6, 16} {
		l := layoutOf(t, n)
		for s := range n {
			g := groundWith(t, l, filled(l, int64(s)))
			g.lay(s, bad)
			g.commit()
			g.all(nil, api.ErrRecord)
			g.wrote("All")
		}
	}
}

// TestP9_6NewMemory: what a caller does with a list is seen in no other one, its spare room neither, and not in the table.
func TestP9_6NewMemory(t *testing.T) {
	for n := 2; n <= 40; n++ {
		g := groundOf(t, n)
		for s := range n {
			g.new(1, api.Inode{Id: 256 + s, Kind: 1, Change: 1}, api.OK)
		}
		first, _ := inode.All(g.x, g.l)
		second, _ := inode.All(g.x, g.l)
		want := slices.Clone(second)
		spoil := first[:cap(first)]
		for i := range spoil {
			spoil[i] = api.Inode{Id: 1, Kind: 7, Size: 9, Indirect: 5}
		}
		_ = append(first, api.Inode{Id: 3})
		if !slices.Equal(second, want) {
			t.Fatalf("one list shows what was written into the other one")
		}
		g.all(want, api.OK)
	}
}
