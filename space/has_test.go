package space_test

import (
	"bytes"
	"testing"

	"annex/api"
)

// TestP8_3EachBit: one bit set, every data block asked.
func TestP8_3EachBit(t *testing.T) {
	g := groundOf(t, 70)
	for i := range 8 * 512 {
		bitmap := make([]byte, 512)
		bitmap[i/8] = []byte{1, 2, 4, 8, 16, 32, 64, 128}[i%8]
		if i > 100 && i%97 > 0 {
			continue
		}
		g.lay(bitmap)
		for k := range 70 {
			g.has(g.l.Data+k, k == i, api.OK)
		}
	}
}

func TestP8_3NoDataBlock(t *testing.T) {
	for _, n := range lengths {
		g := groundWith(t, n, bytes.Repeat([]byte{0xff}, 512))
		for _, b := range notData(g.l) {
			g.has(b, false, api.ErrNoData)
		}
		g.has(g.l.Data, true, api.OK)
		g.has(g.l.Data+n-1, true, api.OK)
	}
}

// TestP8_4EachByte: every byte a bitmap's first, middle and last byte may be.
func TestP8_4EachByte(t *testing.T) {
	g := groundOf(t, 21)
	for x := range 256 {
		ones, low := 0, 0
		for bit, rest := 0, x; rest > 0; bit, rest = bit+1, rest/2 {
			ones += rest % 2
			if bit < 5 {
				low += rest % 2
			}
		}
		for at, want := range []int{ones, ones, low, 0} {
			bitmap := make([]byte, 512)
			bitmap[at] = byte(x)
			g.lay(bitmap)
			g.used(want, api.OK)
		}
	}
}

func TestP8_4NoneAndAll(t *testing.T) {
	for _, n := range lengths {
		g := groundOf(t, n)
		g.used(0, api.OK)
		g.lay(bytes.Repeat([]byte{0xff}, 512))
		g.used(n, api.OK)
		g.lay(make(told, n).laid(bytes.Repeat([]byte{0xff}, 512)))
		g.used(0, api.OK)
		g.lay(full(n).laid(make([]byte, 512)))
		g.used(n, api.OK)
	}
}
