package file_test

import (
	"math/rand"
	"slices"
	"strings"
	"testing"

	"annex/api"
	"annex/file"
	"annex/inode"
)

// TestP10_7SixBlocks: a Write of at most MaxIO bytes, wherever it is, and whatever x has.
func TestP10_7SixBlocks(t *testing.T) {
	most := 0
	for _, size := range []int{0, 5000} {
		g := groundOf(t, 40)
		x, _ := g.filled(first, size)
		mark, _ := g.x.Save()
		ahead := g.w.clone()
		for _, off := range append(edges, 100, 3000, 3585, 4095, 4100, 5000, 68608) {
			for _, n := range []int{1, 512, 513, 1023, 1024} {
				if off+n > 69632 {
					continue
				}
				g.wrote(x, off, strings.Repeat("a", n))
				many := len(g.x.Blocks())
				most = max(most, many)
				if many > 6 {
					t.Errorf("Write(%d, %d bytes) has written %d blocks", off, n, many)
				}
				g.x.Back(mark)
				g.w = ahead.clone()
			}
		}
	}
	is(t, "the most blocks", most, 6)
}

// TestP10_7OnlyItsOwn: of two inodes, one's calls leave the other's record and blocks as they are, and all blocks that are neither's. (Each call of a ground looks at all blocks, too.)
func TestP10_7OnlyItsOwn(t *testing.T) {
	g := groundOf(t, 60)
	r := rand.New(rand.NewSource(1))
	x, y := first, second
	for i := range 200 {
		if i%2 == 1 {
			x, y = y, x
		}
		record, _ := inode.Get(g.x, g.l, y.Id)
		ahead := g.w.clone()
		its := g.blocksOf(x)
		if r.Intn(3) == 0 {
			x = g.cutTo(x, r.Intn(x.Size+1))
		} else {
			x = g.wrote(x, r.Intn(7000), string(noise(int64(i), 1+r.Intn(1024))))
		}
		if now, code := inode.Get(g.x, g.l, y.Id); now != record || code != api.OK {
			t.Fatalf("the other one's record is %+v, %d", now, code)
		}
		its = append(its, g.blocksOf(x)...)
		for b, was := range ahead.b {
			if now, _ := g.x.Read(b); [512]byte(now) != was && !slices.Contains(append(its, g.l.Bits, g.l.Table), b) {
				t.Fatalf("the block %d has changed", b)
			}
		}
		g.commit()
	}
}

// TestP10_7NoSavepoint: the calls make none, and take none away.
func TestP10_7NoSavepoint(t *testing.T) {
	g := groundOf(t, 60)
	for mark := 1; mark < 8; mark += 2 {
		one, _ := g.x.Save()
		x, _ := file.Write(g.x, g.l, first, 4000, make([]byte, 1024))
		file.Read(g.x, g.l, x, 0, 5000)
		file.Blocks(g.x, g.l, x)
		file.Cut(g.x, g.l, x, 0)
		file.Write(g.x, g.l, api.Inode{Id: 3}, 0, make([]byte, 3))
		two, _ := g.x.Save()
		if one != mark || two != mark+1 {
			t.Errorf("the marks %d and %d, want %d and the next one", one, two, mark)
		}
	}
	is(t, "Back(1)", g.x.Back(1), api.OK)
}

// TestP10_7ReadWritesNothing: Read and Blocks leave the transaction as it is.
func TestP10_7ReadWritesNothing(t *testing.T) {
	g := groundOf(t, 24)
	x, _ := g.filled(first, 5000)
	for _, off := range edges {
		g.read(x, off, 1024)
		g.blocks(x)
	}
	g.same("Read and Blocks")
	is(t, "blocks written", len(g.x.Blocks()), 0)
}

// TestP10_2RecordNotRead: x is taken as it is handed in, not as it stands in the table; then the record is x's.
func TestP10_2RecordNotRead(t *testing.T) {
	g := groundOf(t, 24)
	old := g.wrote(first, 0, "old contents")
	fresh := g.wrote(api.Inode{Id: 256, Kind: 1, Change: 3}, 2, "new")
	want := api.Inode{Id: 256, Kind: 1, Change: 3, Size: 5, Direct: [8]int{g.l.Data + 1}}
	is(t, "the inode", fresh, want)
	record, _ := inode.Get(g.x, g.l, 256)
	is(t, "the record", record, want)
	g.reads(old, 0, 99, "old contents")
	g.reads(fresh, 0, 99, "\x00\x00new")
}
