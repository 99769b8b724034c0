package inode_test

import (
	"bytes"
	"encoding/hex"
	"strings"
	"testing"

	"annex/api"
	"annex/inode"
)

// TestP9_1Examples: the chapter's table, with Data 59.
func TestP9_1Examples(t *testing.T) {
	l := layoutFor(t, api.Shape{Clients: 1, Window: 1, Places: 1, Cache: 8, Inodes: 6, Data: 24, Journal: 29})
	if l.Data != 59 {
		t.Fatalf("Data is %d", l.Data)
	}
	g := groundWith(t, l, make(told, 6))
	g.upTo(5)
	file := api.Inode{Id: 257, Kind: 1, Change: 5}
	g.new(2, api.Inode{Id: 256, Kind: 2, Change: 5}, api.OK)
	g.new(1, file, api.OK)
	g.new(3, api.Inode{}, api.ErrArg)
	g.get(257, file, api.OK)
	g.get(513, api.Inode{}, api.ErrStale)
	g.get(255, api.Inode{}, api.ErrStale)
	g.get(262, api.Inode{}, api.ErrStale)
	file.Size, file.Direct = 700, [8]int{59, 60}
	g.put(file, api.OK)
	theRecord(g)
	g.put(api.Inode{Id: 257, Kind: 2}, api.ErrArg)
	g.put(api.Inode{Id: 257, Size: -1, Kind: 1}, api.ErrArg)
	g.put(api.Inode{Id: 513, Kind: 1}, api.ErrStale)
	theRecord(g)
	g.free(256, api.OK)
	g.free(256, api.ErrStale)
	again := api.Inode{Id: 512, Kind: 1, Change: 5}
	g.new(1, again, api.OK)
	g.all([]api.Inode{again, file}, api.OK)
	for id := 258; id <= 261; id++ {
		g.new(1, api.Inode{Id: id, Kind: 1, Change: 5}, api.OK)
	}
	g.new(1, api.Inode{}, api.ErrInodes)
}

// theRecord: the bytes that the chapter writes out.
func theRecord(g *ground) {
	g.t.Helper()
	want, _ := hex.DecodeString(strings.ReplaceAll("00 00 00 00 00 00 00 01 00 00 00 01 00 00 02 bc 00 00 00 00 00 00 00 05 00 00 00 3b 00 00 00 3c", " ", ""))
	want = append(want, make([]byte, 96)...)
	if got := g.table()[128:256]; !bytes.Equal(got, want) {
		g.t.Fatalf("the record is %x, want %x", got, want)
	}
}

// TestP9_1Root: the first inode of a fresh table is the root's.
func TestP9_1Root(t *testing.T) {
	for _, n := range slotNumbers {
		g := groundOf(t, n)
		if x, code := inode.New(g.x, g.l, api.Dir); x.Id != api.Root || code != api.OK {
			t.Errorf("%d slots: the first id is %d, %d", n, x.Id, code)
		}
	}
}
