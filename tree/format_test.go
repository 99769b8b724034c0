package tree_test

import (
	"bytes"
	"slices"
	"testing"

	"annex/api"
	"annex/device"
	"annex/inode"
	"annex/journal"
	"annex/tree"
)

// TestP12_1Root: the root is there, with the number of its transaction; one block is written.
func TestP12_1Root(t *testing.T) {
	for _, slots := range []int{2, 3, 4, 5, 256} {
		for ahead := range 3 {
			g := bare(t, slots, 0)
			for range ahead {
				g.fill(2)
				g.commit()
			}
			is(t, "Format", tree.Format(g.x, g.l), api.OK)
			is(t, "the root", g.get(256), api.Inode{Id: 256, Kind: 2, Change: 1 + ahead})
			is(t, "one block", slices.Equal(g.x.Blocks(), []int{g.l.Table}), true)
			all, _ := inode.All(g.x, g.l)
			is(t, "inodes", len(all), 1)
		}
	}
}

// TestP12_1OtherSlots: tables that were used.
func TestP12_1OtherSlots(t *testing.T) {
	for _, c := range []struct {
		what  string
		spoil func(m *image)
		want  api.Errno
	}{
		{"nothing", func(m *image) {}, api.OK},
		{"slot 1 is used", func(m *image) { m.record(1, api.Inode{Id: 257, Kind: 1}) }, api.OK},
		{"a record behind it may not be", func(m *image) { m.record(1, api.Inode{Id: 257, Kind: 3}) }, api.OK},
		{"a root is there", func(m *image) { m.record(0, api.Inode{Id: 256, Kind: 2}) }, api.ErrTree},
		{"a file is there", func(m *image) { m.record(0, api.Inode{Id: 512, Kind: 1}) }, api.ErrTree},
		{"a root was there", func(m *image) { m.record(0, api.Inode{Id: 256}) }, api.ErrTree},
		{"the slot is used up", func(m *image) { m.record(0, api.Inode{Id: 1 << 48}) }, api.ErrTree},
		{"all are used", func(m *image) {
			for slot := range 3 {
				m.record(slot, api.Inode{Id: 256 + slot, Kind: 2})
			}
		}, api.ErrInodes},
		{"its record may not be", func(m *image) { m.record(0, api.Inode{Id: 256, Kind: 3}) }, api.ErrRecord},
		{"a record ahead of a free one may not be", func(m *image) {
			m.record(0, api.Inode{Id: 256, Kind: 2})
			m.record(1, api.Inode{Id: 0, Kind: 2})
		}, api.ErrRecord},
	} {
		m := newImage(t, shapeOf(3, 0))
		c.spoil(m)
		g := m.ground(t)
		is(t, c.what, tree.Format(g.x, g.l), c.want)
	}
}

func TestP12_1Twice(t *testing.T) {
	g := groundOf(t, 3, 0)
	is(t, "Format again", tree.Format(g.x, g.l), api.ErrTree)
}

// TestP12_1Below: errors of the layers below.
func TestP12_1Below(t *testing.T) {
	g := bare(t, 6, 0)
	g.fill(24)
	is(t, "a full transaction", tree.Format(g.x, g.l), api.ErrTxBig)
	g.drop()
	g.fill(23)
	is(t, "one that is nearly full", tree.Format(g.x, g.l), api.OK)
	g.drop()
	g.off()
	is(t, "without power", tree.Format(g.x, g.l), api.ErrPower)

	l := layoutOf(t, shapeOf(2, 0))
	d := device.New(l.Table)
	journal.Format(d, l.Journal, l.JournalLen)
	j, _, _ := journal.Open(d, l.Journal, l.JournalLen)
	is(t, "a device without a table", tree.Format(j.Begin(), l), api.ErrPlace)
}

// TestP12_1OverNoise: what stands elsewhere does not matter, and stays.
func TestP12_1OverNoise(t *testing.T) {
	g := bare(t, 5, 512)
	was := map[int][]byte{}
	for b := range g.l.Total {
		was[b], _ = g.x.Read(b)
	}
	is(t, "Format", tree.Format(g.x, g.l), api.OK)
	for b, data := range was {
		if now, _ := g.x.Read(b); b != g.l.Table && !bytes.Equal(now, data) {
			t.Errorf("the block %d is another one", b)
		}
	}
}
