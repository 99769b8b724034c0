package tree_test

import (
	"encoding/binary"
	"fmt"
	"math/rand"
	"testing"

	"annex/api"
)

// image is what a device holds, made by hand.
type image struct {
	l     api.Layout
	bytes []byte
	next  int // the data block that is given next
}

func newImage(t *testing.T, s api.Shape) *image {
	t.Helper()
	l := layoutOf(t, s)
	return &image{l, make([]byte, l.Total*512), l.Data}
}

func (m *image) block(b int) []byte { return m.bytes[b*512 : b*512+512] }

// record writes the record of a slot; x.Id's generation, whatever its slot.
func (m *image) record(slot int, x api.Inode) {
	b := m.bytes[m.l.Table*512+slot*128:][:128]
	clear(b)
	binary.BigEndian.PutUint64(b, uint64(x.Id>>8))
	binary.BigEndian.PutUint32(b[8:], uint32(x.Kind))
	binary.BigEndian.PutUint32(b[12:], uint32(x.Size))
	binary.BigEndian.PutUint64(b[16:], uint64(x.Change))
	for i, n := range append(x.Direct[:], x.Indirect) {
		binary.BigEndian.PutUint32(b[24+4*i:], uint32(n))
	}
}

// take gives a data block with these bytes; it is in use.
func (m *image) take(data []byte) int {
	b := m.next
	if b == m.l.Data+m.l.DataLen {
		return 0
	}
	m.next++
	copy(m.block(b), data)
	m.block(m.l.Bits)[(b-m.l.Data)/8] |= 1 << ((b - m.l.Data) % 8)
	return b
}

// hold lets an inode have contents, as far as eight blocks reach.
func (m *image) hold(x api.Inode, data []byte) api.Inode {
	x.Size = len(data)
	for i := 0; i*512 < len(data) && i < 8; i++ {
		x.Direct[i] = m.take(data[i*512 : min(len(data), i*512+512)])
	}
	return x
}

func entryBytes(name string, id int) []byte {
	b := make([]byte, 32)
	binary.BigEndian.PutUint64(b, uint64(id))
	b[8] = byte(len(name))
	copy(b[9:], name)
	return b
}

// ground is two devices with this image.
func (m *image) ground(t *testing.T) *ground {
	t.Helper()
	return &ground{t, m.l, sideOf(t, m.l, m.bytes), sideOf(t, m.l, m.bytes)}
}

// TestP12_5AnyImage: images made by hand, by chance: entries that lead nowhere, to the root, in rings; roots that are none; records, contents, bitmaps that may not be; blocks that two inodes have. All operations against the second telling.
func TestP12_5AnyImage(t *testing.T) {
	for seed := range int64(1200) {
		t.Run(fmt.Sprint(seed), func(t *testing.T) {
			t.Parallel()
			a := newChance(t, rand.New(rand.NewSource(seed)))
			for range 40 {
				a.do(a.request())
				if a.r.Intn(6) == 0 {
					a.commit()
				}
				if a.r.Intn(6) == 0 {
					a.drop()
				}
				if a.r.Intn(15) == 0 {
					a.commit()
					a.fill(14 + a.r.Intn(11))
				}
			}
		})
	}
}

// chance is a ground, and how its image was thrown.
type chance struct {
	*ground
	r      *rand.Rand
	ids    []int    // by slot
	dirs   []int    // ids of directories
	files  []int    // and of files
	had    []string // entries, as they were at first: an id and a name
	spoilt int      // of a hundred things
}

var fewNames = []string{"a", "b", "c", "d", "e", "f"}

func newChance(t *testing.T, r *rand.Rand) *chance {
	s := shapeOf(2+r.Intn(9), r.Intn(4)*r.Intn(20000))
	s.Data += 20
	m := newImage(t, s)
	a := &chance{r: r, spoilt: []int{0, 2, 5, 15}[r.Intn(4)]}
	kinds := []int{2}
	a.ids = []int{256}
	for slot := 1; slot < s.Inodes; slot++ {
		kinds = append(kinds, []int{0, 1, 1, 2, 2, 2}[r.Intn(6)])
		a.ids = append(a.ids, (1+r.Intn(3))<<8|slot)
	}
	if a.bad() {
		kinds[0] = r.Intn(3)
	}
	if a.bad() {
		a.ids[0] = 256 * r.Intn(4)
	}
	entries := a.entries(kinds)
	for slot, kind := range kinds {
		switch kind {
		case 1:
			a.files = append(a.files, max(1, a.ids[slot]))
		case 2:
			a.dirs = append(a.dirs, max(1, a.ids[slot]))
		}
		m.record(slot, a.inode(m, api.Inode{Id: a.ids[slot], Kind: kind}, entries[slot]))
	}
	a.spoil(m)
	a.ground = m.ground(t)
	return a
}

func (a *chance) bad() bool { return a.r.Intn(100) < a.spoilt }

func (a *chance) name() string { return fewNames[a.r.Intn(len(fewNames))] }

// entries are the contents of the directories by slot: a tree, most times.
func (a *chance) entries(kinds []int) [][]byte {
	rows := make([][]byte, len(kinds))
	taken := map[string]int{}
	lay := func(in int, name string, id int) {
		key := fmt.Sprint(in, name)
		if taken[key]++; kinds[in] == 2 && (taken[key] == 1 || a.bad()) {
			rows[in] = append(rows[in], entryBytes(name, id)...)
			a.had = append(a.had, fmt.Sprint(max(1, a.ids[in]), " ", name))
		}
	}
	for slot := 1; slot < len(kinds); slot++ {
		if kinds[slot] > 0 {
			lay(a.r.Intn(slot), a.name(), a.ids[slot])
		}
		if a.bad() {
			lay(a.r.Intn(len(kinds)), a.name(), []int{256, a.ids[slot] + 256, a.r.Intn(300), a.ids[slot], a.ids[a.r.Intn(len(kinds))]}[a.r.Intn(5)])
		}
	}
	return rows
}

func (a *chance) inode(m *image, x api.Inode, entries []byte) api.Inode {
	switch x.Kind {
	case 0:
		return x
	case 1:
		entries = noise(int64(x.Id), a.r.Intn(3)*a.r.Intn(1500))
	}
	x.Change = a.r.Intn(5)
	x = m.hold(x, entries)
	if x.Kind == 1 && a.r.Intn(3) == 0 {
		x.Size = max(x.Size, 4096+a.r.Intn(9000))
		x.Indirect = m.take(nil)
	}
	if a.bad() {
		x.Size = max(0, x.Size+[]int{-32, 32, 1, -1, 64, 8192}[a.r.Intn(6)])
	}
	if a.bad() {
		x.Direct[a.r.Intn(2)] = []int{0, m.l.Data, m.l.Data + a.r.Intn(5), m.l.Data + 1}[a.r.Intn(4)]
	}
	return x
}

// spoil changes bytes: of records, of the bitmap, of contents.
func (a *chance) spoil(m *image) {
	for range 3 {
		if a.bad() {
			m.bytes[m.l.Table*512+a.r.Intn(len(a.ids)*128)] = byte(a.r.Intn(4))
		}
		if a.bad() {
			m.block(m.l.Bits)[a.r.Intn(3)] = byte(a.r.Intn(256))
		}
		if a.bad() {
			m.block(m.l.Data + a.r.Intn(6))[a.r.Intn(70)] = byte(a.r.Intn(256))
		}
	}
	if a.bad() {
		for i := range m.block(m.l.Bits) {
			m.block(m.l.Bits)[i] = 0xff
		}
	}
}

func (a *chance) id() int {
	switch a.r.Intn(12) {
	case 0:
		return 256
	case 1:
		return a.ids[a.r.Intn(len(a.ids))] + 256
	case 2:
		return 1 + a.r.Intn(600)
	}
	return max(1, a.ids[a.r.Intn(len(a.ids))])
}

func (a *chance) file() int {
	if len(a.files) > 0 && a.r.Intn(4) > 0 {
		return a.files[a.r.Intn(len(a.files))]
	}
	return a.id()
}

// within is a directory and a name, that was there at first many times.
func (a *chance) within() (id int, name string) {
	if len(a.had) > 0 && a.r.Intn(5) > 0 {
		fmt.Sscan(a.had[a.r.Intn(len(a.had))], &id, &name)
		return id, name
	}
	if len(a.dirs) > 0 && a.r.Intn(4) > 0 {
		return a.dirs[a.r.Intn(len(a.dirs))], a.name()
	}
	return a.id(), a.name()
}

func (a *chance) request() api.Request {
	id, name := a.within()
	switch o := 1 + a.r.Intn(14); o {
	case api.Lookup:
		path := ""
		for range a.r.Intn(4) {
			path += "/" + a.name()
		}
		if path == "" {
			path = "/"
		}
		return look(path)
	case api.Getattr:
		return getattr(a.id())
	case api.Read:
		return read(a.file(), a.r.Intn(3)*a.r.Intn(5000), 1+a.r.Intn(1024))
	case api.Write:
		return write(a.file(), a.r.Intn(3)*a.r.Intn(5000), string(noise(int64(a.r.Intn(99)), 1+a.r.Intn(1024))))
	case api.Create, api.Mkdir:
		return op(o, id, a.name())
	case api.Remove, api.Rmdir:
		return op(o, id, name)
	case api.Readdir:
		return list(id, append(fewNames, "")[a.r.Intn(7)], 1+a.r.Intn(5))
	}
	id2, name2 := a.within()
	if a.r.Intn(3) == 0 {
		name2 = a.name()
	}
	return move(id, name, id2, name2)
}
