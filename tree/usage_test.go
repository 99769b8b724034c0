package tree_test

import (
	"testing"

	"annex/api"
	"annex/device"
	"annex/journal"
	"annex/tree"
)

func (g *ground) usage(bytes, inodes int) {
	g.t.Helper()
	was := len(g.x.Blocks())
	b, n, code := tree.Usage(g.x, g.l)
	if b != bytes || n != inodes || code != api.OK {
		g.t.Errorf("Usage = %d, %d, %d, want %d, %d", b, n, code, bytes, inodes)
	}
	is(g.t, "blocks written", len(g.x.Blocks()), was)
}

// TestP12_6AnyTable: the inodes in use count, whether or not an entry leads to them, whatever the root is.
func TestP12_6AnyTable(t *testing.T) {
	m := newImage(t, shapeOf(5, 0))
	m.ground(t).usage(0, 0)
	m.record(3, api.Inode{Id: 7<<8 | 3, Kind: 1, Size: 69632})
	m.ground(t).usage(69632, 1)
	m.record(4, api.Inode{Id: 7<<8 | 4, Kind: 1, Size: 1})
	m.record(2, api.Inode{Id: 9<<8 | 2, Kind: 2, Size: 4000})
	m.record(1, api.Inode{Id: 9<<8 | 1})
	m.ground(t).usage(69633, 3)
	m.record(0, api.Inode{Id: 512, Kind: 1, Size: 7})
	m.ground(t).usage(69640, 4)
}

func TestP12_6Errors(t *testing.T) {
	none := func(what string, x *journal.Tx, l api.Layout, want api.Errno) {
		t.Helper()
		if b, n, code := tree.Usage(x, l); b != 0 || n != 0 || code != want {
			t.Errorf("%s: Usage = %d, %d, %d, want %d", what, b, n, code, want)
		}
	}
	m := newImage(t, shapeOf(5, 0))
	m.record(0, api.Inode{Id: 256, Kind: 2})
	m.record(1, api.Inode{Id: 257, Kind: 1, Size: 9})
	m.record(4, api.Inode{Id: 256, Kind: 3})
	g := m.ground(t)
	none("a record that may not be", g.x, g.l, api.ErrRecord)
	m.record(4, api.Inode{})
	m.record(5, api.Inode{Id: 256, Kind: 3})
	g = m.ground(t)
	g.usage(9, 2)
	g.off()
	none("without power", g.x, g.l, api.ErrPower)

	l := layoutOf(t, shapeOf(5, 0))
	d := device.New(l.Table + 1)
	journal.Format(d, l.Journal, l.JournalLen)
	j, _, _ := journal.Open(d, l.Journal, l.JournalLen)
	none("half a table", j.Begin(), l, api.ErrPlace)
}
