package fsck_test

import (
	"bytes"
	"fmt"
	"hash/fnv"
	"testing"

	"annex/api"
	"annex/fsck"
	"annex/plan"
)

// refused holds that the three calls answer this error, and nothing else.
func refused(t *testing.T, what string, image []byte, code api.Errno) {
	t.Helper()
	says(t, what, image, code, nil, nil)
	list, _ := fsck.Check(image)
	is(t, what+": a list of Check", list == nil, true)
	list, _ = fsck.Tree(image)
	is(t, what+": a list of Tree", list == nil, true)
}

// super lays a superblock of any shape, with a right sum.
func (d *disk) super(s api.Shape) {
	b := d.block(0)
	clear(b)
	copy(b, "ANXS")
	for i, n := range []int{s.Clients, s.Window, s.Places, s.Cache, s.Inodes, s.Quota, s.Data, s.Journal} {
		put32(b[4+4*i:], n)
	}
	h := fnv.New64a()
	h.Write(b[:36])
	put64(b[36:], h.Sum64())
}

func TestP23_1Image(t *testing.T) {
	image := diskOf(t, example).b
	for _, n := range []int{0, 1, 511, 513, 2*512 - 1, 57*512 + 1, 58*512 - 1, 58*512 + 1, 4096*512 - 1, 4096*512 + 1, 4097 * 512, 10000 * 512} {
		b := make([]byte, n)
		copy(b, image)
		refused(t, fmt.Sprint(n, " bytes"), b, api.ErrImage)
		refused(t, fmt.Sprint(n, " zeros"), make([]byte, n), api.ErrImage)
	}
	refused(t, "nil", nil, api.ErrImage)
}

func TestP23_1Super(t *testing.T) {
	d := diskOf(t, example)
	for _, n := range []int{1, 2, 57, 58, 4096} {
		refused(t, "zeros", make([]byte, 512*n), api.ErrSuper)
	}
	d.super(example)
	says(t, "the same super", d.b, api.OK, nil, []string{rootLine})
	d.b[511] = 1
	refused(t, "a byte behind the sum", d.b, api.ErrSuper)
	d.b[5] = 1
	refused(t, "and another sum", d.b, api.ErrSuperSum)
	d.b[0] = 'B'
	refused(t, "and another beginning", d.b, api.ErrSuper)
	s := example
	s.Clients = 9
	d.super(s)
	refused(t, "nine clients", d.b, api.ErrShape)
	s = example
	s.Data = 19
	d.super(s)
	refused(t, "too few data blocks", d.b, api.ErrRoom)
	s = example
	s.Data = 4096
	d.super(s)
	refused(t, "too many blocks in all", d.b, api.ErrRoom)
}

// TestP23_1Total: there are just as many blocks as the layout says.
func TestP23_1Total(t *testing.T) {
	for _, s := range shapes() {
		d := diskOf(t, s)
		for _, n := range []int{1, 2, 3, d.l.Total - 1, d.l.Total + 1, 2 * d.l.Total, 4096} {
			b := make([]byte, 512*n)
			copy(b, d.b)
			refused(t, fmt.Sprint(n, " blocks"), b, api.ErrRoom)
		}
		checks(t, "as it is", d.b, api.OK)
	}
	s := vast
	s.Data = 4096 - 2 - 200 - (1 + 3*64) - 1 - 64
	d := diskOf(t, s)
	is(t, "blocks", d.l.Total, 4096)
	says(t, "as many blocks as there may be", d.b, api.OK, nil, []string{rootLine})
}

// TestP23_1Head: the journal's head, each byte that is looked at and some that are not.
func TestP23_1Head(t *testing.T) {
	image := diskOf(t, example)
	for i := range 512 {
		d := image.copy()
		d.block(2)[i] ^= 0x40
		if i < 28 {
			refused(t, fmt.Sprint("byte ", i, " of the head"), d.b, api.ErrHeadless)
		} else {
			says(t, "a byte behind the head", d.b, api.OK, nil, []string{rootLine})
		}
	}
	d := image.copy()
	d.head(0)
	refused(t, "seq 0", d.b, api.ErrHeadless)
	d.head(last + 2)
	refused(t, "a seq above MaxNumber + 1", d.b, api.ErrHeadless)
	d.head(last + 1)
	says(t, "MaxNumber + 1", d.b, api.OK, nil, []string{rootLine})
}

// TestP23_1Order: where two of the errors apply, the one that is told first.
func TestP23_1Order(t *testing.T) {
	d := diskOf(t, example)
	d.block(2)[0]++
	refused(t, "the head alone", d.b, api.ErrHeadless)
	refused(t, "the head, and 57 blocks", d.b[:57*512], api.ErrRoom)
	refused(t, "the head, and 59 blocks", append(bytes.Clone(d.b), make([]byte, 512)...), api.ErrRoom)
	d.b[10]++
	refused(t, "and the superblock's sum", d.b, api.ErrSuperSum)
	refused(t, "and 57 blocks", d.b[:57*512], api.ErrSuperSum)
	d.b[0]++
	refused(t, "and its beginning", d.b[:57*512], api.ErrSuper)
	refused(t, "and no whole block", d.b[:57*512+1], api.ErrImage)
}

// TestP23_1LogIsTaken: what is committed and not home counts as if it stood there, and what stands there does not.
func TestP23_1LogIsTaken(t *testing.T) {
	d := diskOf(t, example)
	boot, bits, table, mark := bytes.Clone(d.block(1)), bytes.Clone(d.block(d.l.Bits)), bytes.Clone(d.block(d.l.Table)), bytes.Clone(d.block(d.l.Ledger))
	for _, n := range []int{1, d.l.Bits, d.l.Table, d.l.Ledger} {
		for i := range d.block(n) {
			d.block(n)[i] = 0xff
		}
	}
	holds(t, "spoilt", d.b)
	d.logged(map[int][]byte{1: boot, d.l.Bits: bits, d.l.Table: table, d.l.Ledger: mark})
	is(t, "the bitmap's byte on the device", d.block(d.l.Bits)[0], 0xff)
	says(t, "mended in the log", d.b, api.OK, nil, []string{rootLine})
	d = diskOf(t, example)
	table[23] = 2
	d.logged(map[int][]byte{d.l.Table: table, d.l.Data + 3: make([]byte, 512)})
	says(t, "a Change of the transaction in the log", d.b, api.OK, nil, []string{"dir / 256 0 2"})
	table[23] = 3
	d.logged(map[int][]byte{d.l.Table: table, 1: make([]byte, 512)})
	says(t, "and of one behind it", d.b, api.OK, []string{"boot"}, []string{"dir / 256 0 3"})
}

// TestP23_1NotWhole: a transaction in the log without its commit is nothing.
func TestP23_1NotWhole(t *testing.T) {
	image := diskOf(t, example)
	d := image.copy()
	d.logged(map[int][]byte{1: make([]byte, 512), d.l.Table: make([]byte, 512)})
	says(t, "whole", d.b, api.OK, []string{"boot", "root"}, nil)
	for i := range 16 {
		x := d.copy()
		at := 3 * 512 // the descriptor behind Format's transaction: the ledger, the table, and its head and end
		for string(x.b[at:at+4]) != "ANXC" || !bytes.Equal(x.b[at+8:at+16], []byte{0, 0, 0, 0, 0, 0, 0, 2}) {
			at += 512
		}
		x.b[at+i]++
		if 4 <= i && i < 8 {
			says(t, "a byte of the commit that is not looked at", x.b, api.OK, []string{"boot", "root"}, nil)
			continue
		}
		says(t, "a byte of the commit", x.b, api.OK, nil, []string{rootLine})
	}
}

// TestP23_1AnotherShape: the layout is that of the image's own block 0, also where the log brings another one home.
func TestP23_1AnotherShape(t *testing.T) {
	for _, s := range []api.Shape{
		{Clients: 1, Window: 1, Places: 1, Cache: 2, Inodes: 3, Quota: 0, Data: 20, Journal: 27},
		{Clients: 2, Window: 2, Places: 1, Cache: 2, Inodes: 8, Quota: 0, Data: 40, Journal: 27},
	} {
		d := diskOf(t, example)
		d.inode(259, 1, 1500, 1) // the second of these shapes has another table, the first one no such slot
		d.root(0, entry{"a", 259})
		d.mark(1, last+1)
		super, code := plan.Super(s)
		is(t, "Super", code, api.OK)
		check, tree := []string{"mark 1"}, []string{"dir / 256 1 1", "file /a 259 1500 1 " + sumOf(make([]byte, 1500))}
		says(t, "as it is", d.b, api.OK, check, tree)
		d.logged(map[int][]byte{0: super})
		says(t, "another block 0 in the log", d.b, api.OK, check, tree)
		d = diskOf(t, example)
		d.logged(map[int][]byte{0: make([]byte, 512)})
		says(t, "no block 0 in the log", d.b, api.OK, nil, []string{rootLine})
	}
}

// TestP23_1NextStamp: a Change or a stamp may be below the journal's next seq, and no greater.
func TestP23_1NextStamp(t *testing.T) {
	for _, next := range []uint64{1, 2, 3, 1 << 32, last, last + 1} {
		for _, below := range []int{-1, 0, 1, 2} {
			d := diskOf(t, example)
			d.head(next)
			change := int(next) - 1 + below
			if change < 1 || change > last {
				continue
			}
			d.inode(256, 2, 0, change)
			d.keep(1, 1, 1, uint64(change), reply(t, 1, 1, 1))
			d.epoch(1)
			var want []string
			if below > 0 {
				want = []string{"change 256", "stamp 1 1"}
			}
			checks(t, fmt.Sprint("next ", next, ", change ", change), d.b, api.OK, want...)
		}
	}
}

// TestP23_1SlotsOfTheTable: what stands behind the last slot is not looked at.
func TestP23_1SlotsOfTheTable(t *testing.T) {
	d := diskOf(t, uneven)
	b := d.slot(7)
	for i := range b {
		b[i] = 0xff
	}
	checks(t, "rubbish behind the last slot", d.b, api.OK)
	d.inode(512+7, 2, 0, 1)
	checks(t, "a record behind the last slot", d.b, api.OK)
	d.root(0, entry{"a", 512 + 7}, entry{"b", 512 + 6})
	says(t, "entries", d.b, api.OK, []string{"dangling 256 a", "dangling 256 b"}, []string{"dir / 256 2 1"})
	d.inode(512+6, 2, 0, 1)
	says(t, "the last slot", d.b, api.OK, []string{"dangling 256 a"}, []string{"dir / 256 2 1", "dir /b 518 0 1"})
}
