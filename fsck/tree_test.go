package fsck_test

import (
	"fmt"
	"strings"
	"testing"

	"annex/api"
	"annex/fsck"
)

// tells holds Tree of an image against lines, and all of it against the second telling.
func tells(t *testing.T, what string, d *disk, want ...string) {
	t.Helper()
	got, code := fsck.Tree(d.b)
	is(t, what+": Tree's error", code, api.OK)
	is(t, what+": Tree", whole(got), whole(want))
	holds(t, what, d.b)
}

// TestP23_4Order: each directory's entries by name, and all below one ahead of the next.
func TestP23_4Order(t *testing.T) {
	d := diskOf(t, roomy)
	lay := func(id, change, i int, list ...entry) {
		n := d.l.Data + i
		d.inode(id, 2, d.entries(n, list...), change, n)
	}
	lay(256, 1, 0, entry{"b", 257}, entry{"a", 513 + 1}, entry{"B", 261}, entry{"a-", 262}, entry{"a0", 263})
	lay(514, 7, 1, entry{"z", 259}, entry{"y", 260}, entry{"\xff", 264})
	lay(257, 3, 2, entry{"c d", 265})
	d.inode(259, 1, 5, 4, d.l.Data+3)
	copy(d.data(3), "hellohello")
	d.inode(260, 2, 0, last)
	d.inode(261, 1, 0, 0)
	d.inode(262, 2, 0, 2)
	d.inode(263, 1, 69632, 5)
	d.inode(264, 1, 513, 9, 0, d.l.Data+4)
	d.data(4)[0] = 9
	d.inode(265, 2, 0, 6)
	tells(t, "a tree", d,
		"dir / 256 5 1",
		"file /B 261 0 0 cbf29ce484222325",
		"dir /a 514 3 7",
		fmt.Sprint("dir /a/y 260 0 ", last),
		"file /a/z 259 5 4 "+sumOf([]byte("hello")),
		"file /a/%ff 264 513 9 "+sumOf(append(make([]byte, 512), 9)),
		"dir /a- 262 0 2",
		"file /a0 263 69632 5 "+sumOf(make([]byte, 69632)),
		"dir /b 257 1 3",
		"dir /b/c%20d 265 0 6")
}

// TestP23_4SumsAreLong: sixteen digits, with zeros ahead.
func TestP23_4SumsAreLong(t *testing.T) {
	short := map[int]bool{}
	for n := range 600 {
		b := []byte{byte(n), byte(n >> 8)}
		d := diskOf(t, example)
		d.inode(257, 1, 2, 1, 38)
		copy(d.data(0), b)
		d.root(1, entry{"f", 257})
		want := sumOf(b)
		tree, _ := fsck.Tree(d.b)
		is(t, "lines", len(tree), 2)
		is(t, "the file's", tree[1], "file /f 257 2 1 "+want)
		short[len(strings.TrimLeft(want, "0"))] = true
	}
	is(t, "sums with a zero ahead", short[15], true)
}

// TestP23_4Sum: of all the bytes, up to the size, wherever the blocks are; none, where a number of a piece that is read may not be.
func TestP23_4Sum(t *testing.T) {
	for _, size := range []int{1, 511, 512, 513, 1024, 4095, 4096, 4097, 4607, 4608, 4609, 69631, 69632} {
		for _, bent := range []int{-1, 8, 9, 135} {
			d := diskOf(t, roomy)
			row := make([]byte, 0, 69632)
			d.inode(257, 1, size, 1, 0, 0, 0, 0, 0, 0, 0, 0, d.l.Data+200)
			for piece := range 136 {
				n := d.l.Data + 135 - piece
				block := d.block(n)
				for i := range block {
					block[i] = byte(piece + 3*i)
				}
				if piece%7 == 3 {
					row, n = append(row, make([]byte, 512)...), 0
				} else {
					row = append(row, block...)
				}
				switch {
				case piece == bent:
					d.numbered(d.l.Data+200, map[int]int{piece - 8: d.l.Data - 1})
				case piece < 8:
					put32(d.slot(1)[24+4*piece:], n)
				default:
					d.numbered(d.l.Data+200, map[int]int{piece - 8: n})
				}
			}
			d.root(300, entry{"f", 257})
			want := sumOf(row[:size])
			if bent >= 0 && size > 512*bent {
				want = "-"
			}
			tells(t, fmt.Sprint("size ", size, ", bent ", bent), d, "dir / 256 1 1", fmt.Sprint("file /f 257 ", size, " 1 ", want))
		}
	}
}

// TestP23_4PassedOver: ids that are not in use, and those that have had their line.
func TestP23_4PassedOver(t *testing.T) {
	for _, x := range []struct {
		what string
		dirs map[int][]entry // slots 0 to 4 are directories, 5 and 6 files
		want []string
	}{
		{"no such id", map[int][]entry{0: {{"a", 999}, {"b", 512 + 1}, {"c", 257}}, 1: {{"d", 1}}}, []string{"dir / 256 3 1", "dir /c 257 1 1"}},
		{"the root again", map[int][]entry{0: {{"a", 256}, {"b", 257}}, 1: {{"c", 256}}}, []string{"dir / 256 2 1", "dir /b 257 1 1"}},
		{"a file again", map[int][]entry{0: {{"a", 257}, {"b", 261}, {"c", 261}}, 1: {{"f", 261}}}, []string{"dir / 256 3 1", "dir /a 257 1 1", "file /a/f 261 0 1 cbf29ce484222325"}},
		{"a directory again", map[int][]entry{0: {{"a", 257}, {"b", 258}}, 1: {{"c", 258}}, 2: {{"f", 262}}}, []string{"dir / 256 2 1", "dir /a 257 1 1", "dir /a/c 258 1 1", "file /a/c/f 262 0 1 cbf29ce484222325"}},
		{"a ring", map[int][]entry{0: {{"b", 258}, {"a", 257}}, 1: {{"b", 258}}, 2: {{"a", 257}, {"z", 261}}}, []string{"dir / 256 2 1", "dir /a 257 1 1", "dir /a/b 258 2 1", "file /a/b/z 261 0 1 cbf29ce484222325"}},
		{"what is not reached", map[int][]entry{1: {{"b", 258}}, 2: {{"a", 257}}}, []string{"dir / 256 0 1"}},
	} {
		d := diskOf(t, uneven)
		for slot := 6; slot > 0; slot-- {
			d.inode(256+slot, 2-slot/5, 0, 1)
		}
		for slot, list := range x.dirs {
			n := d.l.Data + slot
			d.inode(256+slot, 2, d.entries(n, list...), 1, n)
		}
		tells(t, x.what, d, x.want...)
	}
}

func TestP23_4Bent(t *testing.T) {
	d := diskOf(t, uneven)
	d.inode(257, 2, d.entries(d.l.Data+1, entry{"x", 258}), 1, d.l.Data+1)
	d.inode(258, 1, 0, 1)
	d.inode(259, 2, 8224, 2)
	d.root(0, entry{"a", 257}, entry{"b", 259}, entry{"x", 258})
	d.data(1)[9] = 0
	tells(t, "directories that may not be", d, "dir / 256 3 1", "dir /a 257 - 1", "dir /b 259 - 2", "file /x 258 0 1 cbf29ce484222325")
	d.slot(2)[127] = 1
	tells(t, "a record that may not be", d, "dir / 256 3 1", "dir /a 257 - 1", "dir /b 259 - 2")
	d.slot(0)[15] = 97
	tells(t, "the root's list", d, "dir / 256 - 1")
}

// TestP23_4NoRoot: nothing is told.
func TestP23_4NoRoot(t *testing.T) {
	for _, id := range []int{256, 512} {
		for kind := range 4 {
			d := diskOf(t, example)
			d.inode(id, kind, d.entries(38, entry{"a", 257}), 1, 38)
			d.inode(257, 1, 0, 1)
			if kind == 2 && id == 256 {
				tells(t, "the root", d, "dir / 256 1 1", "file /a 257 0 1 cbf29ce484222325")
			} else {
				tells(t, fmt.Sprint("id ", id, ", kind ", kind), d)
			}
		}
	}
}

// TestP23_4Deep: a tree deeper than a path may be, and as wide as the table.
func TestP23_4Deep(t *testing.T) {
	name := strings.Repeat("%\x80 ", 7)
	d := diskOf(t, vast)
	path := ""
	want := []string{"dir / 256 1 1"}
	for slot := 1; slot < 256; slot++ {
		n := d.l.Data + slot
		d.inode(255+slot, 2, d.entries(n, entry{name, 256 + slot}), 1, n)
		d.bits(n)
		path += "/" + strings.Repeat("%25%80%20", 7)
		many := 1
		if slot == 255 {
			many = 0
		}
		want = append(want, fmt.Sprint("dir ", path, " ", 256+slot, " ", many, " 1"))
	}
	d.inode(511, 2, 0, 1)
	tells(t, "as deep as it goes", d, want...)
	checks(t, "as deep as it goes", d.b, api.OK)
	put64(d.data(255), 256) // the last one but one leads to the root
	holds(t, "a ring of all", d.b)
	for slot := range 256 {
		d.inode(256+slot, 2, 8192, 1, d.l.Data, d.l.Data+1, d.l.Data+2, d.l.Data+3, d.l.Data+4, d.l.Data+5, d.l.Data+6, d.l.Data+7, d.l.Data+8)
	}
	for i := range 8 {
		d.numbered(d.l.Data+8, map[int]int{i: d.l.Data + 9 + i})
	}
	for i := range 256 {
		n := d.l.Data + i/16 + i/128
		d.entries(n, make([]entry, 0)...)
		b := d.block(n)[32*(i%16):][:32]
		clear(b)
		put64(b, uint64(256+i))
		b[8] = 3
		copy(b[9:], fmt.Sprintf("%03d", i))
	}
	holds(t, "all directories have all entries", d.b)
	tree, _ := fsck.Tree(d.b)
	is(t, "lines", len(tree), 256)
}
