package space_test

import (
	"bytes"
	"math/rand"
	"slices"
	"testing"

	"annex/api"
)

// TestP8_1OneLeft: each data block as the only one that is free.
func TestP8_1OneLeft(t *testing.T) {
	for _, n := range lengths[:len(lengths)-1] {
		g := groundOf(t, n)
		for i := range n {
			w := full(n)
			w[i] = false
			g.lay(w.laid(make([]byte, 512)))
			g.alloc(g.l.Data+i, api.OK)
			g.alloc(0, api.ErrSpace)
		}
	}
}

// TestP8_1LowestOfTwo: in one byte, in bytes side by side, far from one another.
func TestP8_1LowestOfTwo(t *testing.T) {
	g := groundOf(t, 65)
	for low := range 65 {
		for high := low + 1; high < 65; high++ {
			w := full(65)
			w[low], w[high] = false, false
			g.lay(w.laid(make([]byte, 512)))
			g.alloc(g.l.Data+low, api.OK)
			g.alloc(g.l.Data+high, api.OK)
			g.alloc(0, api.ErrSpace)
		}
	}
}

// TestP8_1AllInOrder: P8.6's row, for each length.
func TestP8_1AllInOrder(t *testing.T) {
	for _, n := range lengths {
		g := groundOf(t, n)
		for i := range n {
			g.alloc(g.l.Data+i, api.OK)
		}
		g.alloc(0, api.ErrSpace)
		g.alloc(0, api.ErrSpace)
		if want := full(n).laid(make([]byte, 512)); !bytes.Equal(g.bitmap(), want) {
			t.Errorf("%d data blocks: the bitmap is %x, want %x", n, g.bitmap(), want)
		}
	}
}

// TestP8_1InUseFromThenOn: what was given is in use, and given no second time.
func TestP8_1InUseFromThenOn(t *testing.T) {
	g := groundOf(t, 20)
	for i := range 20 {
		g.has(g.l.Data+i, false, api.OK)
		g.alloc(g.l.Data+i, api.OK)
		g.has(g.l.Data+i, true, api.OK)
		g.used(i+1, api.OK)
	}
}

// TestP8_1TheBlockItself: neither what is taken nor what is given back is touched.
func TestP8_1TheBlockItself(t *testing.T) {
	g := groundOf(t, 9)
	content := func(b int) []byte {
		data, _ := g.x.Read(b)
		return data
	}
	for i := range 9 {
		b := g.l.Data + i
		was := content(b)
		g.alloc(b, api.OK)
		if !bytes.Equal(content(b), was) {
			t.Errorf("Alloc changed the block %d", b)
		}
		own := bytes.Repeat([]byte{byte(i)}, 512)
		g.x.Write(b, own)
		g.free(b, api.OK)
		if !bytes.Equal(content(b), own) {
			t.Errorf("Free changed the block %d", b)
		}
		g.alloc(b, api.OK)
		if !bytes.Equal(content(b), own) {
			t.Errorf("a second Alloc changed the block %d", b)
		}
	}
}

// TestP8_1BitsBehind: they are neither looked at nor changed, whatever they are.
func TestP8_1BitsBehind(t *testing.T) {
	grounds := [][]byte{make([]byte, 512), bytes.Repeat([]byte{0xff}, 512), noise(81, 512), bytes.Repeat([]byte{0xaa}, 512)}
	for _, n := range lengths {
		for _, behind := range grounds {
			w := make(told, n)
			g := groundWith(t, n, w.laid(behind))
			g.used(0, api.OK)
			for i := range n {
				g.alloc(g.l.Data+i, api.OK)
			}
			g.alloc(0, api.ErrSpace)
			g.used(n, api.OK)
			if !bytes.Equal(g.bitmap(), full(n).laid(behind)) {
				t.Errorf("%d data blocks: bits behind theirs have changed", n)
			}
			g.free(g.l.Data+n-1, api.OK)
			g.free(g.l.Data+n, api.ErrNoData)
			w = full(n)
			w[n-1] = false
			if !bytes.Equal(g.bitmap(), w.laid(behind)) {
				t.Errorf("%d data blocks: Free changed bits behind theirs", n)
			}
		}
	}
}

// TestP8_1AnyBitmap: bitmaps by chance, from a few bits in use to nearly all.
func TestP8_1AnyBitmap(t *testing.T) {
	r := rand.New(rand.NewSource(811))
	for round := range 400 {
		n := 8 + r.Intn(120)
		w := make(told, n)
		for i := range w {
			w[i] = r.Intn(100) < round%101
		}
		behind := noise(int64(round), 512)
		g := groundWith(t, n, w.laid(behind))
		g.used(w.used(), api.OK)
		for i, u := range w {
			g.has(g.l.Data+i, u, api.OK)
		}
		for range 5 {
			g.alloc(w.alloc(g.l))
			b := g.l.Data + r.Intn(n)
			g.free(b, w.free(g.l, b))
		}
		if !bytes.Equal(g.bitmap(), w.laid(behind)) {
			t.Fatalf("the bitmap is %x, want %x", g.bitmap(), w.laid(behind))
		}
	}
}

// TestP8_1FullWritesNothing: ErrSpace leaves no trace.
func TestP8_1FullWritesNothing(t *testing.T) {
	for _, n := range []int{8, 20} {
		g := groundWith(t, n, full(n).laid(noise(5, 512)))
		was := g.bitmap()
		g.alloc(0, api.ErrSpace)
		if !bytes.Equal(g.bitmap(), was) || !slices.Equal(g.x.Blocks(), nil) {
			t.Errorf("an Alloc that found nothing wrote the blocks %v", g.x.Blocks())
		}
	}
}
