package inode_test

import (
	"bytes"
	"fmt"
	"testing"

	"annex/api"
)

// bases are records that may be, of all sorts.
func bases(l api.Layout, s int) []place {
	great := sample(l, lastUse<<8|s, 2)
	great.Size, great.Change = api.MaxSize, api.MaxNumber
	return []place{
		{},
		{uses: 1},
		{uses: lastUse},
		{1, true, api.Inode{Id: 256 + s, Kind: 1}},
		{1<<32 + 7, true, sample(l, (1<<32+7)<<8|s, 1)},
		{lastUse, true, great},
	}
}

// asked holds all five calls against the second telling of one slot's record; the other slots are free. Nothing of it stays.
func asked(g *ground, s int, record []byte) {
	g.t.Helper()
	p, ok := placeByWords(g.l, s, record)
	bad := api.OK
	if !ok {
		bad, p = api.ErrRecord, place{}
	}
	g.lay(s, record)
	w := make(told, g.l.Shape.Inodes)
	w[s] = p
	mark, _ := g.x.Save()
	for _, id := range []int{256 + s, max(p.uses, 1)<<8 | s, (p.uses+1)<<8 | s} {
		x, code := w.get(id)
		if !ok {
			code = bad
		}
		g.get(id, x, code)
		g.free(id, code)
		g.x.Back(mark)
		for kind := 1; kind <= 2; kind++ {
			y := sample(g.l, id, kind)
			if code == api.OK && x.Kind != kind {
				g.put(y, api.ErrArg)
			} else {
				g.put(y, code)
			}
			g.x.Back(mark)
		}
	}
	g.all(w.all(), bad)
	if s == 0 && !ok {
		g.new(1, api.Inode{}, api.ErrRecord)
	} else {
		x, code := w.new(1, g.x.Seq())
		g.new(1, x, code)
	}
	g.x.Drop()
	g.begin()
}

// TestP9_2EachByte: each byte of a record, changed to several others.
func TestP9_2EachByte(t *testing.T) {
	for i := range 6 {
		t.Run(fmt.Sprint(i), func(t *testing.T) {
			t.Parallel()
			g := groundOf(t, 3)
			for s := range 3 {
				base := bases(g.l, s)[i].record()
				asked(g, s, base)
				for at := range base {
					for _, v := range []byte{0, 1, 2, 3, base[at] - 1, base[at] + 1, base[at] ^ 0x40, base[at] ^ 0x80, 0xff} {
						r := bytes.Clone(base)
						r[at] = v
						asked(g, s, r)
					}
				}
			}
		})
	}
}

// TestP9_2EachField: each field of a record at the edges of what it may be.
func TestP9_2EachField(t *testing.T) {
	g := groundOf(t, 2)
	first, last := uint64(g.l.Data), uint64(g.l.Data+g.l.DataLen-1)
	blocks := []uint64{0, 1, first - 1, first, last, last + 1, first + 1<<31, 1<<32 - 1}
	fields := map[int][]uint64{
		0:  {0, 1, 2, lastUse - 1, lastUse, lastUse + 1, 1 << 41, 1<<63 - 1, 1 << 63, 1<<63 + 1, 1<<64 - 1},
		8:  {0, 1, 2, 3, 255, 256, 257, 1 << 31, 1<<32 - 1},
		12: {0, 1, api.MaxSize - 1, api.MaxSize, api.MaxSize + 1, 1 << 17, 1 << 31, 1<<32 - 1},
		16: {0, 1, api.MaxNumber - 1, api.MaxNumber, api.MaxNumber + 1, 1<<63 - 1, 1 << 63, 1<<63 + 1, 1<<64 - 1},
		56: blocks,
	}
	for i := range 8 {
		fields[24+4*i] = blocks
	}
	for i := range bases(g.l, 0) {
		for at, values := range fields {
			for _, v := range values {
				for s := range 2 {
					r := bases(g.l, s)[i].record()
					size := 4
					if at == 0 || at == 16 {
						size = 8
					}
					copy(r[at:], bigEndian(v, size))
					asked(g, s, r)
				}
			}
		}
	}
}

// bigEndian is a number in so many bytes.
func bigEndian(v uint64, n int) []byte {
	b := make([]byte, n)
	for i := range b {
		b[n-1-i] = byte(v >> (8 * i))
	}
	return b
}

// TestP9_2Noise: records by chance may not be, in any slot.
func TestP9_2Noise(t *testing.T) {
	g := groundOf(t, 6)
	for seed := range int64(200) {
		r := noise(seed, 128)
		if _, ok := placeByWords(g.l, 0, r); ok {
			t.Fatal("noise is a record")
		}
		s := int(seed % 6)
		asked(g, s, r)
		clear(r[60:]) // what may be is not decided by the last bytes alone
		asked(g, s, r)
	}
}

// TestP9_2OtherSlotsOfTheBlock: Get, Put and Free look at their own slot alone; New and All do not.
func TestP9_2OtherSlotsOfTheBlock(t *testing.T) {
	l := layoutOf(t, 8)
	for s := range 8 {
		w := make(told, 8)
		w[s] = place{1, true, sample(l, 256+s, 1)}
		g := groundWith(t, l, w)
		for other := range 8 {
			if other != s {
				g.lay(other, noise(int64(other), 128))
			}
		}
		g.get(256+s, w[s].x, api.OK)
		g.put(w[s].x, api.OK)
		g.all(nil, api.ErrRecord)
		g.new(1, api.Inode{}, api.ErrRecord)
		g.free(256+s, api.OK)
		if s == 0 {
			g.new(1, api.Inode{Id: 512, Kind: 1, Change: 1}, api.OK)
		}
	}
}

// TestP9_6ErrorsWriteNothing: where a record may not be, no call writes.
func TestP9_6ErrorsWriteNothing(t *testing.T) {
	g := groundOf(t, 6)
	g.lay(0, noise(1, 128))
	g.commit()
	was := g.table()
	g.new(1, api.Inode{}, api.ErrRecord)
	g.get(256, api.Inode{}, api.ErrRecord)
	g.put(sample(g.l, 256, 1), api.ErrRecord)
	g.free(256, api.ErrRecord)
	g.all(nil, api.ErrRecord)
	g.wrote("calls with ErrRecord")
	if !bytes.Equal(g.table(), was) {
		t.Error("calls with ErrRecord have changed the table")
	}
}
