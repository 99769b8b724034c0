package dir_test

import (
	"bytes"
	"fmt"
	"math"
	"strings"
	"testing"

	"annex/api"
)

// bentEverywhere asks all four calls: with a name that stands there, one that does not, and one that is spoilt.
func (g *ground) bentEverywhere(what string, x api.Inode, want api.Errno) {
	g.t.Helper()
	for _, name := range []string{"a", "b", "z"} {
		_, one := g.find(x, name)
		_, two := g.add(x, name, 5)
		_, _, three := g.remove(x, name)
		_, four := g.list(x)
		if got := [4]api.Errno{one, two, three, four}; got != [4]api.Errno{want, want, want, want} {
			g.t.Errorf("%s, %q: %v, want %d", what, name, got, want)
		}
	}
	if list := g.x.Blocks(); len(list) > 0 {
		g.t.Errorf("%s: the blocks %v have been written", what, list)
	}
}

// spoilt are entries that may not be.
func spoilt() map[string][]byte {
	all := map[string][]byte{
		"zeros": make([]byte, 32), "ones": bytes.Repeat([]byte{0xff}, 32),
		"no id": bytesOf("z", 0), "id 2^49": bytesOf("z", 1<<49), "id 2^62": bytesOf("z", 1<<62), "id 2^63": bytesOf("z", 1<<63), "id 2^63 + 5": bytesOf("z", 1<<63+5), "the last id of all": bytesOf("z", math.MaxUint64),
		"no name": bytesOf("", 5), "a dot": bytesOf(".", 5), "dots": bytesOf("..", 5), "a slash": bytesOf("/", 5), "a zero": bytesOf("\x00", 5),
		"a path": bytesOf("z/y", 5), "a slash at the end": bytesOf(strings.Repeat("z", 22)+"/", 5), "a slash in front": bytesOf("/z", 5), "a zero in it": bytesOf("z\x00y", 5), "a zero at the end": bytesOf("z\x00", 5),
	}
	for i := 49; i < 64; i++ {
		all[fmt.Sprint("the id's bit ", i)] = bytesOf("z", 1<<i|5)
	}
	for n := range 256 {
		b := bytesOf("zyx", 5)
		if b[8] = byte(n); n != 3 {
			all[fmt.Sprint("the length ", n)] = b
		}
		b = bytesOf(strings.Repeat("z", 23), 5)
		if b[8] = byte(n); n != 23 {
			all[fmt.Sprint("of 23 bytes the length ", n)] = b
		}
	}
	for i := 12; i < 32; i++ {
		b := bytesOf("zyx", 5)
		b[i] = byte(i)
		all[fmt.Sprint("something behind the name: ", i)] = b
	}
	return all
}

// TestP11_1BentEntries: each entry that may not be, alone, ahead of others, between them and behind them.
func TestP11_1BentEntries(t *testing.T) {
	a, b := bytesOf("a", 7), bytesOf("b", 1<<49-1)
	for what, e := range spoilt() {
		for _, row := range [][]byte{e, concat(e, a), concat(a, e), concat(a, e, b), concat(a, b, e)} {
			g := groundOf(t, 16)
			x := g.wrote(first, 0, row)
			g.commit()
			g.bentEverywhere(what, x, api.ErrDirBent)
		}
	}
}

func concat(list ...[]byte) []byte { return bytes.Join(list, nil) }

// TestP11_1EachPlace: one bit of each byte of a great directory.
func TestP11_1EachPlace(t *testing.T) {
	g := groundOf(t, 24)
	x, _ := g.full(first, 150)
	for at := 0; at < x.Size; at += 97 {
		block := g.pieceOf(x, at/512)
		was, _ := g.x.Read(block)
		now := bytes.Clone(was)
		now[at%512] ^= 0x80
		g.lay(block, now)
		g.find(x, "z")
		g.list(x)
		g.add(x, "z", 5)
		g.remove(x, "0-")
		g.drop()
	}
}

// TestP11_1Twice: a name that stands twice, next to itself and far off, with the same id and with another.
func TestP11_1Twice(t *testing.T) {
	for _, n := range []int{0, 1, 2, 15, 16, 100, 254} {
		for _, ids := range [][2]uint64{{5, 5}, {5, 6}} {
			g := groundOf(t, 24)
			row := bytesOf("a", ids[0])
			for i := range n {
				row = append(row, bytesOf(fmt.Sprint(i), 9)...)
			}
			row = append(row, bytesOf("a", ids[1])...)
			x := first
			for off := 0; off < len(row); off += 4096 {
				x = g.wrote(x, off, row[off:min(len(row), off+4096)])
			}
			g.commit()
			g.bentEverywhere(fmt.Sprint("twice, with ", n, " between"), x, api.ErrDirBent)
			x.Size -= 32
			if _, code := g.list(x); code != api.OK {
				t.Errorf("without the last one: %d", code)
			}
		}
	}
}

// TestP11_1BothLetters: names that are alike but not the same may stand beside each other.
func TestP11_1BothLetters(t *testing.T) {
	g := groundOf(t, 16)
	x := g.wrote(first, 0, concat(bytesOf("a", 1), bytesOf("A", 2), bytesOf("aa", 3), bytesOf("\xff", 4), bytesOf("\xfe", 5), bytesOf("\xff\xff", 6)))
	list, code := g.list(x)
	is(t, "List", code, api.OK)
	is(t, "entries", len(list), 6)
}

// TestP11_1Sizes: each that may not be, ahead of what file.Read would say.
func TestP11_1Sizes(t *testing.T) {
	g := groundOf(t, 24)
	x, _ := g.full(first, 256)
	bent := x
	bent.Direct[3] = g.l.Data - 1
	for _, size := range []int{-1, -31, -32, -33, -8192, 1, 31, 33, 63, 511, 513, 8191, 8193, 8223, 8224, 8192 + 512, 69632, 69632 + 32, 1 << 40, math.MaxInt, math.MaxInt - 31, math.MinInt, math.MinInt + 32} {
		x.Size, bent.Size = size, size
		g.bentEverywhere(fmt.Sprint("Size ", size), x, api.ErrDirBent)
		g.bentEverywhere(fmt.Sprint("Size ", size, ", a bent number"), bent, api.ErrDirBent)
	}
	for size := 0; size <= 8192; size += 32 {
		x.Size = size
		if list, code := g.list(x); code != api.OK || len(list) != size/32 {
			t.Errorf("Size %d: List = %d entries, %d", size, len(list), code)
		}
	}
	for _, size := range []int{0, 32, 8192} {
		bent.Size = size
		g.bentEverywhere(fmt.Sprint("Size ", size, ", a bent number"), bent, api.ErrBent)
	}
}

// TestP11_1Behind: what stands behind the size is not looked at.
func TestP11_1Behind(t *testing.T) {
	g := groundOf(t, 16)
	x := g.wrote(first, 0, concat(bytesOf("a", 7), noise(3, 480)))
	x.Size = 32
	if list, code := g.list(x); code != api.OK || len(list) != 1 {
		t.Errorf("List = %v, %d", list, code)
	}
	g.find(x, "a")
	y := g.added(x, "b")
	g.find(y, "b")
	y, id, code := g.remove(y, "a")
	is(t, "Remove", code, api.OK)
	is(t, "its id", id, 7)
	is(t, "Size", y.Size, 32)
}

// TestP11_1Holes: they are zeros, and zeros are no entry.
func TestP11_1Holes(t *testing.T) {
	g := groundOf(t, 24)
	x, list := g.full(first, 150)
	for p := range 8 {
		y := x
		y.Direct[p] = 0
		g.bentEverywhere(fmt.Sprint("the piece ", p), y, api.ErrDirBent)
		y.Size = 512 * p
		if _, code := g.list(y); code != api.OK {
			t.Errorf("ahead of the hole: %d", code)
		}
	}
	y := x
	y.Indirect = 0
	g.bentEverywhere("no numbers", y, api.ErrDirBent)
	g.find(x, list[149])
	only := first
	only.Size = 8192
	g.bentEverywhere("nothing but a hole", only, api.ErrDirBent)
}
