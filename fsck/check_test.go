package fsck_test

import (
	"encoding/binary"
	"fmt"
	"slices"
	"strings"
	"testing"

	"annex/api"
	"annex/fsck"
)

func sumOf(b []byte) string {
	h := uint64(0xcbf29ce484222325)
	for _, x := range b {
		h = (h ^ uint64(x)) * 0x100000001b3
	}
	return fmt.Sprintf("%016x", h)
}

// TestP23_2Boot: each byte of block 1.
func TestP23_2Boot(t *testing.T) {
	image := diskOf(t, example)
	for i := range 512 {
		for _, x := range []byte{1, 0x80, 0xff} {
			d := image.copy()
			d.block(1)[i] ^= x
			if 8 <= i && i < 16 && binary.BigEndian.Uint64(d.block(1)[8:]) <= last {
				checks(t, fmt.Sprint("byte ", i, " xored with ", x), d.b, api.OK)
			} else {
				checks(t, fmt.Sprint("byte ", i, " xored with ", x), d.b, api.OK, "boot")
			}
		}
	}
	for x := 1; x < 256; x++ {
		for _, i := range []int{4, 7, 16, 511} {
			d := image.copy()
			d.block(1)[i] = byte(x)
			checks(t, fmt.Sprint("byte ", i, " is ", x), d.b, api.OK, "boot")
		}
	}
	for epoch, want := range map[uint64]string{0: "", 1: "", last - 1: "", last: "", last + 1: "boot", 1<<63 - 1: "boot", 1 << 63: "boot", 1<<64 - 1: "boot"} {
		d := image.copy()
		d.epoch(epoch)
		checks(t, fmt.Sprint("epoch ", epoch), d.b, api.OK, strings.Fields(want)...)
	}
}

// TestP23_2Record: what a record may not have, byte by byte and at each bound.
func TestP23_2Record(t *testing.T) {
	image := diskOf(t, example)
	for i := range 128 {
		d := image.copy()
		d.slot(2)[i] = 1
		var want []string
		if i >= 8 || i < 2 {
			want = []string{"record 2"}
		}
		checks(t, fmt.Sprint("byte ", i, " of a free slot"), d.b, api.OK, want...)
		d = image.copy()
		d.inode(512+2, 1, 0, 1)
		d.root(0, entry{"a", 512 + 2})
		d.slot(2)[i] ^= 1
		holds(t, fmt.Sprint("byte ", i, " of a file"), d.b)
	}
	first, end := image.l.Data, image.l.Data+image.l.DataLen
	for _, x := range []struct {
		what               string
		generation         uint64
		kind, size, change int
		place, number      int
		right              bool
	}{
		{"free, never used", 0, 0, 0, 0, 0, 0, true},
		{"free, used up", 1 << 40, 0, 0, 0, 0, 0, true},
		{"free, used more than that", 1<<40 + 1, 0, 0, 0, 0, 0, false},
		{"free, a generation below 0", 1<<64 - 1, 0, 0, 0, 0, 0, false},
		{"free, with a size", 1, 0, 1, 0, 0, 0, false},
		{"free, with a change", 1, 0, 0, 1, 0, 0, false},
		{"free, with a block", 1, 0, 0, 0, 0, first, false},
		{"a file of generation 0", 0, 1, 0, 0, 0, 0, false},
		{"a directory of generation 0", 0, 2, 0, 0, 0, 0, false},
		{"a file of generation 1", 1, 1, 0, 0, 0, 0, true},
		{"the last generation", 1 << 40, 1, 0, 0, 0, 0, true},
		{"one more", 1<<40 + 1, 1, 0, 0, 0, 0, false},
		{"a generation whose id would be that of a low one", 1<<56 + 1, 1, 0, 0, 0, 0, false},
		{"a generation of 2^63", 1 << 63, 1, 0, 0, 0, 0, false},
		{"kind 3", 1, 3, 0, 0, 0, 0, false},
		{"kind 2^32 - 1", 1, 1<<32 - 1, 0, 0, 0, 0, false},
		{"the greatest size", 1, 1, 69632, 0, 0, 0, true},
		{"one more", 1, 1, 69633, 0, 0, 0, false},
		{"a directory of the greatest size", 1, 2, 69632, 0, 0, 0, true},
		{"a great change", 1, 1, 0, last, 0, 0, true},
		{"one more", 1, 1, 0, last + 1, 0, 0, false},
		{"a change below 0", 1, 1, 0, -1, 0, 0, false},
		{"the first data block", 1, 1, 512, 1, 0, first, true},
		{"the block ahead of it", 1, 1, 512, 1, 0, first - 1, false},
		{"the last data block", 1, 1, 4096, 1, 7, end - 1, true},
		{"the block behind it", 1, 1, 4096, 1, 7, end, false},
		{"the indirect block", 1, 1, 4097, 1, 8, first, true},
		{"the superblock as indirect one", 1, 1, 4097, 1, 8, 1, false},
		{"no such block as indirect one", 1, 1, 4097, 1, 8, 1<<32 - 1, false},
		{"the block behind the last one as indirect one", 1, 1, 4097, 1, 8, end, false},
	} {
		d := image.copy()
		d.inode(256+3, x.kind, x.size, x.change)
		put64(d.slot(3), x.generation)
		put32(d.slot(3)[24+4*x.place:], x.number)
		holds(t, x.what, d.b)
		w, code := taleOf(d.b)
		is(t, "the tale", code, api.OK)
		is(t, x.what, slices.Contains(w.check(), "record 3"), !x.right)
	}
}

func TestP23_2RecordsBySlots(t *testing.T) {
	d := diskOf(t, uneven)
	d.inode(256, 3, 0, 0)
	d.inode(512+1, 1, 0, 2)
	d.inode(256+2, 1, 0, 1)
	d.inode(1024+3, 2, 0, last)
	d.slot(5)[127] = 1
	d.inode(256+6, 1, 70000, 5)
	checks(t, "several", d.b, api.OK, "record 0", "change 513", "change 1027", "record 5", "record 6", "root", "orphan 513", "orphan 258", "orphan 1027")
}

func TestP23_2Root(t *testing.T) {
	image := diskOf(t, example)
	for _, x := range []struct {
		what        string
		generation  uint64
		kind        int
		check, tree []string
	}{
		{"the root is free", 1, 0, []string{"root"}, nil},
		{"the root was never there", 0, 0, []string{"root"}, nil},
		{"the root is a file", 1, 1, []string{"root"}, nil},
		{"its slot has generation 2", 2, 2, []string{"root", "orphan 512"}, nil},
		{"its slot has generation 2, and is free", 2, 0, []string{"root"}, nil},
		{"its slot has a generation that may not be", 1<<40 + 1, 2, []string{"record 0", "root"}, nil},
	} {
		d := image.copy()
		d.inode(256, x.kind, 0, 0)
		put64(d.slot(0), x.generation)
		says(t, x.what, d.b, api.OK, x.check, x.tree)
	}
}

// numbered lays a block of numbers.
func (d *disk) numbered(n int, numbers map[int]int) {
	for i, b := range numbers {
		put32(d.block(n)[4*i:], b)
	}
}

// TestP23_2Bent: numbers in the indirect block, whether or not the size reaches them; a bent one's blocks are not told.
func TestP23_2Bent(t *testing.T) {
	for _, size := range []int{0, 100, 4096, 4097, 8192, 69632} {
		for _, at := range []int{0, 1, 64, 127} {
			for _, number := range []int{1, 37, 58, 1<<32 - 1} {
				d := diskOf(t, example)
				d.inode(257, 1, size, 1, 38, 39, 0, 0, 0, 0, 0, 0, 40)
				d.numbered(40, map[int]int{at: number, 5: 41})
				d.root(15, entry{"a", 257})
				d.bits(38, 40, 41)
				var quota []string
				if size > 2000 {
					quota = []string{fmt.Sprint("quota ", size)}
				}
				checks(t, "bent", d.b, api.OK, append([]string{"bent 257", "lost 38", "lost 40", "lost 41"}, quota...)...)
				holds(t, "bent", d.b)
			}
		}
	}
}

// TestP23_2Long: a block at each place, at sizes about the piece's begin.
func TestP23_2Long(t *testing.T) {
	s := example
	s.Quota, s.Data = 69632, 160
	for piece := range 136 {
		for _, size := range []int{0, 1, 512*piece - 512, 512*piece - 1, 512 * piece, 512*piece + 1, 512*piece + 511, 512*piece + 512, 69632} {
			if size < 0 {
				continue
			}
			d := diskOf(t, s)
			root, one, numbers := d.l.Data+9, d.l.Data, d.l.Data+1
			d.inode(257, 1, size, 1)
			d.bits(one)
			if piece < 8 {
				put32(d.slot(1)[24+4*piece:], one)
			} else {
				put32(d.slot(1)[56:], numbers)
				d.numbered(numbers, map[int]int{piece - 8: one})
				d.bits(numbers)
			}
			d.root(root-d.l.Data, entry{"a", 257})
			var want []string
			if size <= 512*piece {
				want = []string{"long 257"}
			}
			checks(t, fmt.Sprint("piece ", piece, ", size ", size), d.b, api.OK, want...)
		}
	}
}

// TestP23_2LongIndirect: an indirect block without a number in it.
func TestP23_2LongIndirect(t *testing.T) {
	for size, want := range map[int]string{0: "long", 1: "long", 4095: "long", 4096: "long", 4097: "", 4608: "", 69632: ""} {
		s := example
		s.Quota, s.Data = 69632, 160
		d := diskOf(t, s)
		d.inode(257, 1, size, 1, 0, 0, 0, 0, 0, 0, 0, 0, d.l.Data+1)
		d.bits(d.l.Data + 1)
		d.root(0, entry{"a", 257})
		if want != "" {
			checks(t, fmt.Sprint("size ", size), d.b, api.OK, "long 257")
		} else {
			checks(t, fmt.Sprint("size ", size), d.b, api.OK)
		}
	}
	d := diskOf(t, example)
	d.inode(256, 2, 0, 1, 38, 0, 0, 0, 0, 0, 0, 0, 39)
	checks(t, "a directory", d.b, api.OK, "long 256", "free 38", "free 39")
}

func TestP23_2Blocks(t *testing.T) {
	for _, x := range []struct {
		what    string
		numbers [2][]int // of two files
		bits    []int
		want    []string
	}{
		{"each has its own", [2][]int{{38, 40}, {41}}, []int{38, 40, 41}, nil},
		{"one in both", [2][]int{{38, 40}, {40}}, []int{38, 40}, []string{"shared 40"}},
		{"one in both, free", [2][]int{{38, 40}, {40}}, []int{38}, []string{"shared 40"}},
		{"twice in one", [2][]int{{38, 38}, {40}}, []int{38, 40}, []string{"shared 38"}},
		{"three times", [2][]int{{38, 38}, {38}}, []int{38}, []string{"shared 38"}},
		{"the root's too", [2][]int{{57}, {38}}, []int{38}, []string{"shared 57"}},
		{"some are free", [2][]int{{38, 40}, {41}}, []int{40}, []string{"free 38", "free 41"}},
		{"some are lost", [2][]int{{38}, {40}}, []int{38, 39, 40, 56}, []string{"lost 39", "lost 56"}},
		{"all of it", [2][]int{{38, 41}, {41, 39}}, []int{39, 40, 55}, []string{"free 38", "lost 40", "shared 41", "lost 55"}},
		{"as indirect block, and as a piece", [2][]int{{38, 0, 0, 0, 0, 0, 0, 0, 40}, {40}}, []int{38, 40}, []string{"long 257", "shared 40"}},
		{"as indirect block of both", [2][]int{{0, 0, 0, 0, 0, 0, 0, 0, 40}, {0, 0, 0, 0, 0, 0, 0, 0, 40}}, []int{40}, []string{"long 257", "long 258", "shared 40"}},
	} {
		d := diskOf(t, example)
		d.inode(257, 1, 1000, 1, x.numbers[0]...)
		d.inode(258, 1, 1000, 1, x.numbers[1]...)
		d.root(19, entry{"a", 257}, entry{"b", 258})
		d.bits(x.bits...)
		checks(t, x.what, d.b, api.OK, x.want...)
		holds(t, x.what, d.b)
	}
}

// TestP23_2NotInUse: what the record of a slot that is not in use has is not told.
func TestP23_2NotInUse(t *testing.T) {
	d := diskOf(t, example)
	d.inode(257, 3, 600, 1, 38, 39)
	d.inode(258, 1, 600, 1, 38, 58)
	d.bits(38)
	checks(t, "two that may not be", d.b, api.OK, "record 1", "record 2", "lost 38")
}

// TestP23_2Bitmap: bits behind the data blocks are not looked at.
func TestP23_2Bitmap(t *testing.T) {
	d := diskOf(t, example)
	b := d.block(d.l.Bits)
	for i := range b {
		b[i] = 0xff
	}
	var want []string
	for n := 38; n < 58; n++ {
		want = append(want, fmt.Sprint("lost ", n))
	}
	checks(t, "a bitmap of ones", d.b, api.OK, want...)
	clear(b[:3])
	b[2] = 0xf0
	checks(t, "but those of the data blocks", d.b, api.OK)
}

// TestP23_2List: directories whose contents may not be have no entries.
func TestP23_2List(t *testing.T) {
	entries := []entry{{"a", 257}, {"b", 999}}
	for _, x := range []struct {
		what   string
		change func(d *disk)
	}{
		{"33 bytes", func(d *disk) { d.slot(0)[15] = 33 }},
		{"63 bytes", func(d *disk) { d.slot(0)[15] = 63 }},
		{"96 bytes", func(d *disk) { d.slot(0)[15] = 96 }},
		{"an id of 0", func(d *disk) { put64(d.data(0)[32:], 0) }},
		{"an id of 2^49", func(d *disk) { put64(d.data(0), 1<<49) }},
		{"an empty name", func(d *disk) { d.data(0)[8] = 0 }},
		{"a name of 24 bytes", func(d *disk) { d.data(0)[8] = 24 }},
		{"a slash", func(d *disk) { d.data(0)[9] = '/' }},
		{"a dot", func(d *disk) { d.data(0)[41] = '.' }},
		{"a byte behind the name", func(d *disk) { d.data(0)[31] = 1 }},
		{"one name twice", func(d *disk) { d.data(0)[41] = 'a' }},
		{"a hole", func(d *disk) { put32(d.slot(0)[24:], 0); clear(d.block(d.l.Bits)) }},
	} {
		d := diskOf(t, example)
		d.inode(257, 1, 5, 1)
		d.root(0, entries...)
		checks(t, "as it is", d.b, api.OK, "dangling 256 b")
		x.change(d)
		says(t, x.what, d.b, api.OK, []string{"list 256", "orphan 257"}, []string{"dir / 256 - 1"})
		holds(t, x.what, d.b)
	}
}

// TestP23_2ListOfMany: 256 entries may be, 257 may not; the contents lie behind an indirect block.
func TestP23_2ListOfMany(t *testing.T) {
	for many, want := range map[int]bool{255: true, 256: true, 257: false} {
		d := diskOf(t, roomy)
		var numbers []int
		indirect := d.l.Data + 30
		for i := 0; i < many; i += 16 {
			var list []entry
			for k := i; k < min(i+16, many); k++ {
				list = append(list, entry{fmt.Sprint("n", k), 256 + 40 + k})
			}
			b := d.l.Data + i/16
			d.entries(b, list...)
			d.bits(b)
			if i/16 < 8 {
				numbers = append(numbers, b)
			} else {
				d.numbered(indirect, map[int]int{i/16 - 8: b})
			}
		}
		d.bits(indirect)
		d.inode(256, 2, 32*many, 1, append(numbers, indirect)...)
		w, _ := taleOf(d.b)
		holds(t, "many", d.b)
		is(t, fmt.Sprint(many, " entries"), slices.Contains(w.check(), "list 256"), !want)
		if want {
			is(t, "lines", len(w.check()), many)
		} else {
			is(t, "lines", whole(w.check()), "list 256")
		}
	}
}

func TestP23_2Dangling(t *testing.T) {
	d := diskOf(t, uneven)
	d.inode(512+3, 2, 0, 1)
	d.inode(256+5, 4, 0, 1) // a record that may not be
	d.inode(256+2, 2, d.entries(d.l.Data+1, entry{"z", 1}, entry{"Z", 255}, entry{"a", 1<<49 - 1}), 1, d.l.Data+1)
	d.root(0, entry{"d", 258}, entry{"ok", 512 + 3}, entry{"old", 256 + 3}, entry{"new", 768 + 3}, entry{"free", 256 + 4},
		entry{"bent", 256 + 5}, entry{"behind", 256 + 7}, entry{"far", 256 + 255}, entry{"no", 0x1ff00}, entry{"%", 3})
	d.bits(d.l.Data + 1)
	checks(t, "dangling", d.b, api.OK, "record 5",
		"dangling 256 %25", "dangling 256 behind", "dangling 256 bent", "dangling 256 far", "dangling 256 free", "dangling 256 new", "dangling 256 no", "dangling 256 old",
		"dangling 258 Z", "dangling 258 a", "dangling 258 z")
	holds(t, "dangling", d.b)
}

// TestP23_2Names: each byte that a name may have.
func TestP23_2Names(t *testing.T) {
	for x := range 256 {
		if x == 0 || x == '/' {
			continue
		}
		d := diskOf(t, example)
		d.inode(257, 2, d.entries(39, entry{"x" + string([]byte{byte(x)}), 999}), 1, 39)
		d.bits(39)
		d.root(0, entry{string([]byte{byte(x), 'y'}), 257})
		want := string([]byte{byte(x)})
		if x < 0x21 || x > 0x7e || x == '%' {
			want = fmt.Sprintf("%%%02x", x)
		}
		says(t, "a name", d.b, api.OK, []string{"dangling 257 x" + want}, []string{"dir / 256 1 1", "dir /" + want + "y 257 1 1"})
	}
}

// TestP23_2Places: orphan, twice and apart, each with what it is told for first.
func TestP23_2Places(t *testing.T) {
	for _, x := range []struct {
		what string
		dirs map[int][]entry // slots 0 to 4 are directories, 5 and 6 files
		want []string
	}{
		{"a tree", map[int][]entry{0: {{"a", 257}, {"b", 258}, {"f", 261}}, 1: {{"c", 259}, {"d", 260}}, 4: {{"f", 262}}}, nil},
		{"nothing below the root", nil, []string{"orphan 257", "orphan 258", "orphan 259", "orphan 260", "orphan 261", "orphan 262"}},
		{"an orphan with all below it", map[int][]entry{0: {{"f", 261}}, 1: {{"b", 258}, {"f", 262}}, 2: {{"c", 259}}, 3: {{"d", 260}}}, []string{"orphan 257", "apart 258", "apart 259", "apart 260", "apart 262"}},
		{"twice in one", map[int][]entry{0: {{"a", 257}, {"b", 257}, {"c", 258}, {"d", 259}, {"e", 260}, {"f", 261}, {"g", 262}}}, []string{"twice 257"}},
		{"twice in two", map[int][]entry{0: {{"a", 257}, {"c", 258}, {"d", 259}, {"e", 260}, {"f", 261}, {"g", 262}}, 1: {{"f", 261}}}, []string{"twice 261"}},
		{"twice, and not reached", map[int][]entry{0: {{"c", 258}, {"d", 259}, {"e", 260}, {"g", 262}}, 1: {{"f", 261}, {"g", 261}}}, []string{"orphan 257", "twice 261"}},
		{"to the root", map[int][]entry{0: {{"a", 257}, {"b", 258}, {"d", 259}, {"e", 260}, {"f", 261}, {"g", 262}}, 3: {{"up", 256}}}, []string{"twice 256"}},
		{"from the root to the root", map[int][]entry{0: {{"", 0}, {"r", 256}, {"a", 257}, {"b", 258}, {"d", 259}, {"e", 260}, {"f", 261}, {"g", 262}}}, []string{"twice 256"}},
		{"to the root, twice, from a place apart", map[int][]entry{0: {{"b", 258}, {"d", 259}, {"e", 260}, {"f", 261}, {"g", 262}}, 1: {{"p", 256}, {"q", 256}}}, []string{"twice 256", "orphan 257"}},
		{"a ring", map[int][]entry{0: {{"d", 259}, {"e", 260}, {"f", 261}, {"g", 262}}, 1: {{"b", 258}}, 2: {{"a", 257}}}, []string{"apart 257", "apart 258"}},
		{"a ring that is reached", map[int][]entry{0: {{"a", 257}, {"d", 259}, {"e", 260}, {"f", 261}, {"g", 262}}, 1: {{"b", 258}}, 2: {{"a", 257}}}, []string{"twice 257"}},
		{"into itself", map[int][]entry{0: {{"b", 258}, {"d", 259}, {"e", 260}, {"f", 261}}, 1: {{"me", 257}, {"g", 262}}}, []string{"apart 257", "apart 262"}},
		{"a lone chain", map[int][]entry{0: {{"a", 257}}, 1: {{"b", 258}}, 2: {{"d", 259}}, 3: {{"e", 260}}, 4: {{"f", 261}, {"g", 262}}}, nil},
	} {
		d := diskOf(t, uneven)
		for slot := 6; slot > 0; slot-- {
			kind := 2
			if slot > 4 {
				kind = 1
			}
			d.inode(256+slot, kind, 0, 1)
		}
		for slot, list := range x.dirs {
			list = slices.DeleteFunc(list, func(e entry) bool { return e.id == 0 })
			n := d.l.Data + slot
			d.inode(256+slot, 2, d.entries(n, list...), 1, n)
			d.bits(n)
		}
		checks(t, x.what, d.b, api.OK, x.want...)
		holds(t, x.what, d.b)
	}
}

// TestP23_2WithoutRoot: nothing is reached, where 256 is not in use or no directory.
func TestP23_2WithoutRoot(t *testing.T) {
	for _, kind := range []int{0, 1} {
		d := diskOf(t, example)
		d.inode(256, kind, 0, 0)
		d.inode(257, 2, d.entries(38, entry{"a", 258}, entry{"r", 256}), 1, 38)
		d.inode(258, 1, 0, 1)
		d.bits(38)
		place := []string{"root", "dangling 257 r", "orphan 257", "apart 258"}
		if kind == 1 {
			place = []string{"root", "twice 256", "orphan 257", "apart 258"}
		}
		says(t, fmt.Sprint("kind ", kind), d.b, api.OK, place, nil)
	}
	d := diskOf(t, example)
	d.inode(512, 2, d.entries(38, entry{"a", 258}), 1, 38)
	d.inode(258, 1, 0, 1)
	d.bits(38)
	says(t, "another generation", d.b, api.OK, []string{"root", "orphan 512", "apart 258"}, nil)
}

// TestP23_2FileAsRoot: a file has no entries, whatever its contents are.
func TestP23_2FileAsRoot(t *testing.T) {
	d := diskOf(t, example)
	d.root(0, entry{"a", 257})
	d.inode(257, 2, d.entries(39, entry{"b", 258}), 1, 39)
	d.inode(258, 1, 0, 1)
	d.bits(39)
	checks(t, "as it is", d.b, api.OK)
	d.slot(1)[11] = 1
	checks(t, "the directory below is a file", d.b, api.OK, "orphan 258")
	d.slot(0)[11] = 1
	checks(t, "and the root too", d.b, api.OK, "root", "orphan 257", "orphan 258")
	d.slot(1)[11] = 2
	checks(t, "and the root alone", d.b, api.OK, "root", "orphan 257", "apart 258")
}

func TestP23_2Quota(t *testing.T) {
	for _, x := range []struct {
		a, b int
		want string
	}{{2000, 0, ""}, {1000, 1000, ""}, {2000, 1, "quota 2001"}, {2001, 0, "quota 2001"}, {1000, 1001, "quota 2001"}, {69632, 69632, "quota 139264"}} {
		d := diskOf(t, example)
		d.inode(257, 1, x.a, 1)
		d.inode(258, 1, x.b, 1)
		d.inode(259, 2, 4096, 1) // a directory's size does not count
		d.root(0, entry{"a", 257}, entry{"b", 258}, entry{"d", 259})
		want := []string{"list 259"}
		if x.want != "" {
			want = append(want, x.want)
		}
		checks(t, fmt.Sprint(x.a, " and ", x.b), d.b, api.OK, want...)
		d.inode(259, 1, 3000, 1)
		put64(d.slot(3), 0) // it may not be
		holds(t, "a record that may not be", d.b)
		d.inode(256+3, 1, 0, 1)
		d.root(0)
		holds(t, "orphans count", d.b)
	}
	d := diskOf(t, tiny)
	d.inode(257, 1, 1, 1)
	checks(t, "one byte above no quota at all", d.b, api.OK, "orphan 257", "quota 1")
}

// TestP23_3Sound: one line of any part is enough; beside an error nothing is sound.
func TestP23_3Sound(t *testing.T) {
	for word, change := range map[string]func(d *disk){
		"":       func(*disk) {},
		"boot":   func(d *disk) { d.block(1)[0]++ },
		"change": func(d *disk) { d.slot(0)[23] = 2 },
		"lost":   func(d *disk) { d.bits(39) },
		"orphan": func(d *disk) { d.inode(257, 1, 0, 1) },
		"mark":   func(d *disk) { d.mark(0, last+1) },
		"ledger": func(d *disk) { d.kept(1)[15] = 1 },
		"quota": func(d *disk) {
			d.root(0, entry{"a", 257})
			d.inode(257, 1, 2001, 1)
		},
	} {
		d := diskOf(t, example)
		change(d)
		ok, code := fsck.Sound(d.b)
		is(t, word+": Sound's error", code, api.OK)
		is(t, word+": Sound", ok, word == "")
		list, _ := fsck.Check(d.b)
		is(t, word+": the lines of Check begin so", strings.HasPrefix(whole(list), word), true)
		is(t, word+": any line", len(list) > 0, word != "")
		ok, code = fsck.Sound(d.b[:512])
		is(t, word+": Sound's error", code, api.ErrRoom)
		is(t, word+": Sound beside an error", ok, false)
	}
}
