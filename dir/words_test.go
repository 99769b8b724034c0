package dir_test

import (
	"bytes"
	"encoding/binary"
	"encoding/hex"
	"fmt"
	"math/rand"
	"slices"
	"strings"
	"testing"

	"annex/api"
	"annex/device"
	"annex/dir"
	"annex/file"
	"annex/journal"
	"annex/plan"
)

// side is a device, a journal there, and its open transaction.
type side struct {
	d *device.Device
	j *journal.Journal
	x *journal.Tx
}

// ground is two devices of one layout that hold the same: on the one the package works, on the other a second telling of the chapter, by calls of package file.
type ground struct {
	t *testing.T
	l api.Layout
	side
	w side
}

// line is an entry as the second telling has it.
type line struct {
	name string
	id   uint64
}

// bytesOf is an entry's bytes, by the chapter's words.
func bytesOf(name string, id uint64) []byte {
	b := binary.BigEndian.AppendUint64(nil, id)
	b = append(b, byte(len(name)))
	b = append(b, name...)
	return append(b, make([]byte, 32-len(b))...)
}

// lineOf takes 32 bytes apart. The name has no zeros: what stands ahead of the zeros at the end must be it.
func lineOf(b []byte) (line, bool) {
	id, n, name := binary.BigEndian.Uint64(b), int(b[8]), strings.TrimRight(string(b[9:]), "\x00")
	ok := id > 0 && id>>49 == 0 && len(name) == n && n > 0 && !strings.ContainsAny(name, "/\x00") && name != "." && name != ".."
	return line{name, id}, ok
}

// linesOf tells contents, if they may be.
func linesOf(b []byte) ([]line, bool) {
	var list []line
	for piece := range slices.Chunk(b, 32) {
		e, ok := lineOf(piece)
		if !ok || slices.ContainsFunc(list, func(o line) bool { return o.name == e.name }) {
			return nil, false
		}
		list = append(list, e)
	}
	return list, true
}

// isName says P3.1.
func isName(s string) bool {
	return len(s) >= 1 && len(s) <= 23 && s != "." && s != ".." && !strings.ContainsAny(s, "/\x00")
}

// look has the errors that all calls share, and the entries if there is none.
func (g *ground) look(x api.Inode, nameOk, idOk bool) ([]line, api.Errno) {
	switch {
	case x.Kind != 2:
		return nil, api.ErrNoList
	case !nameOk:
		return nil, api.ErrName
	case !idOk:
		return nil, api.ErrArg
	case x.Size < 0, x.Size > 8192, x.Size&31 != 0:
		return nil, api.ErrDirBent
	}
	b, code := file.Read(g.w.x, g.l, x, 0, x.Size)
	if code != api.OK {
		return nil, code
	}
	list, ok := linesOf(b)
	if !ok {
		return nil, api.ErrDirBent
	}
	return list, api.OK
}

func at(list []line, name string) int {
	return slices.IndexFunc(list, func(e line) bool { return e.name == name })
}

// told is what the second telling answers. A call that is not refused has come to file.Write or file.Cut.
type told struct {
	x       api.Inode
	id      int
	code    api.Errno
	refused bool
}

func (g *ground) tellAdd(x api.Inode, name string, id int) told {
	list, code := g.look(x, isName(name), id > 0 && id>>49 == 0)
	switch {
	case code != api.OK:
	case at(list, name) >= 0:
		code = api.ErrTwice
	case len(list) == 256:
		code = api.ErrDirBent
	default:
		y, code := file.Write(g.w.x, g.l, x, 32*len(list), bytesOf(name, uint64(id)))
		return told{x: y, code: code}
	}
	return told{code: code, refused: true}
}

func (g *ground) tellRemove(x api.Inode, name string) told {
	list, code := g.look(x, isName(name), true)
	if code == api.OK && at(list, name) < 0 {
		code = api.ErrNoName
	}
	if code != api.OK {
		return told{code: code, refused: true}
	}
	i, end := at(list, name), len(list)-1
	if i < end {
		if x, code = file.Write(g.w.x, g.l, x, 32*i, bytesOf(list[end].name, list[end].id)); code != api.OK {
			return told{code: code}
		}
	}
	if x, code = file.Cut(g.w.x, g.l, x, 32*end); code != api.OK {
		return told{code: code}
	}
	return told{x: x, id: int(list[i].id)}
}

// The calls, each held against the second telling, and both devices block by block. Behind an error of file.Write or file.Cut both are taken back.

func (g *ground) find(x api.Inode, name string) (int, api.Errno) {
	g.t.Helper()
	list, code := g.look(x, isName(name), true)
	want := 0
	if i := at(list, name); i >= 0 {
		want = int(list[i].id)
	} else if code == api.OK {
		code = api.ErrNoName
	}
	got, e := dir.Find(g.x, g.l, x, name)
	if got != want || e != code {
		g.t.Fatalf("Find(%+v, %q) = %d, %d, want %d, %d", x, name, got, e, want, code)
	}
	g.same("Find")
	return got, e
}

func (g *ground) list(x api.Inode) ([]api.Entry, api.Errno) {
	g.t.Helper()
	lines, code := g.look(x, true, true)
	var want []api.Entry
	for _, e := range lines {
		want = append(want, api.Entry{Name: e.name, Id: int(e.id)})
	}
	slices.SortFunc(want, func(a, b api.Entry) int { return bytes.Compare([]byte(a.Name), []byte(b.Name)) })
	got, e := dir.List(g.x, g.l, x)
	if !slices.Equal(got, want) || e != code {
		g.t.Fatalf("List(%+v) = %v, %d, want %v, %d", x, got, e, want, code)
	}
	g.same("List")
	return got, e
}

func (g *ground) add(x api.Inode, name string, id int) (api.Inode, api.Errno) {
	g.t.Helper()
	y, _, code := g.change(fmt.Sprintf("Add(%+v, %q, %d)", x, name, id), func() told {
		return g.tellAdd(x, name, id)
	}, func() (api.Inode, int, api.Errno) {
		y, code := dir.Add(g.x, g.l, x, name, id)
		return y, 0, code
	})
	return y, code
}

func (g *ground) remove(x api.Inode, name string) (api.Inode, int, api.Errno) {
	g.t.Helper()
	return g.change(fmt.Sprintf("Remove(%+v, %q)", x, name), func() told {
		return g.tellRemove(x, name)
	}, func() (api.Inode, int, api.Errno) {
		return dir.Remove(g.x, g.l, x, name)
	})
}

func (g *ground) change(what string, tells func() told, does func() (api.Inode, int, api.Errno)) (api.Inode, int, api.Errno) {
	g.t.Helper()
	mark, _ := g.x.Save()
	markToo, _ := g.w.x.Save()
	want := tells()
	got, id, code := does()
	if got != want.x || id != want.id || code != want.code {
		g.t.Fatalf("%s = %+v, %d, %d, want %+v, %d, %d (Data %d)", what, got, id, code, want.x, want.id, want.code, g.l.Data)
	}
	if code != api.OK && !want.refused {
		g.back(mark, markToo)
	}
	g.same(what)
	return got, id, code
}

func (g *ground) back(mark, markToo int) {
	g.t.Helper()
	if one, two := g.x.Back(mark), g.w.x.Back(markToo); one != api.OK || two != api.OK {
		g.t.Fatalf("Back: %d, %d", one, two)
	}
}

// same asks for each block outside the journal, and for which of them have been written.
func (g *ground) same(what string) {
	g.t.Helper()
	if got, want := g.x.Blocks(), g.w.x.Blocks(); !slices.Equal(got, want) {
		g.t.Fatalf("%s: the blocks %v have been written, want %v (Bits %d, Table %d, Data %d)", what, got, want, g.l.Bits, g.l.Table, g.l.Data)
	}
	for b := range g.l.Total {
		if b >= g.l.Journal && b < g.l.Journal+g.l.JournalLen {
			continue
		}
		got, one := g.x.Read(b)
		want, two := g.w.x.Read(b)
		if one != api.OK || two != api.OK || !bytes.Equal(got, want) {
			g.t.Fatalf("%s: the block %d is another one (%d, %d)", what, b, one, two)
		}
	}
}

// first and second are the directories of a ground, empty, and third its file; there is none in the slot 3.
var (
	first  = api.Inode{Id: 256, Kind: 2, Change: 7}
	second = api.Inode{Id: 3<<8 | 1, Kind: 2, Change: 1 << 62}
	third  = api.Inode{Id: 1<<8 | 2, Kind: 1, Change: 1}
)

func recordOf(x api.Inode) []byte {
	s := fmt.Sprintf("%016x%08x%08x%016x", x.Id>>8, x.Kind, x.Size, x.Change)
	for _, b := range append(x.Direct[:], x.Indirect) {
		s += fmt.Sprintf("%08x", b)
	}
	b, err := hex.DecodeString(s + strings.Repeat("00", 68))
	if err != nil || len(b) != 128 {
		panic("a record that is none: " + s)
	}
	return b
}

func layoutOf(t *testing.T, data int) api.Layout {
	t.Helper()
	l, code := plan.Plan(api.Shape{Clients: 1, Window: 1, Places: 1, Cache: 1, Inodes: 4, Data: data, Journal: 27})
	if code != api.OK {
		t.Fatalf("Plan with %d data blocks: %d", data, code)
	}
	return l
}

func noise(seed int64, n int) []byte {
	b := make([]byte, n)
	rand.New(rand.NewSource(seed)).Read(b)
	return b
}

// groundOf has noise in all blocks but the journal's: also in data blocks, and in the bitmap behind their bits. No data block is in use.
func groundOf(t *testing.T, data int) *ground {
	t.Helper()
	l := layoutOf(t, data)
	image := noise(int64(data), l.Total*512)
	for i := range data {
		image[l.Bits*512+i/8] &^= 1 << (i % 8)
	}
	for i, x := range []api.Inode{first, second, third, {Id: 5 << 8}} {
		copy(image[l.Table*512+i*128:], recordOf(x))
	}
	return &ground{t, l, sideOf(t, l, image), sideOf(t, l, image)}
}

func sideOf(t *testing.T, l api.Layout, image []byte) side {
	t.Helper()
	d, code := device.Image(image)
	if code != api.OK {
		t.Fatalf("Image: %d", code)
	}
	if code := journal.Format(d, l.Journal, l.JournalLen); code != api.OK {
		t.Fatalf("Format: %d", code)
	}
	s := side{d: d}
	s.open(t, l)
	return s
}

func (s *side) open(t *testing.T, l api.Layout) {
	t.Helper()
	j, _, code := journal.Open(s.d, l.Journal, l.JournalLen)
	if code != api.OK {
		t.Fatalf("Open: %d", code)
	}
	s.j, s.x = j, j.Begin()
}

// both does a thing on both devices.
func (g *ground) both(do func(s *side) api.Errno) {
	g.t.Helper()
	if one, two := do(&g.side), do(&g.w); one != api.OK || two != api.OK {
		g.t.Fatalf("on both devices: %d, %d", one, two)
	}
}

func (g *ground) commit() {
	g.t.Helper()
	g.both(func(s *side) api.Errno {
		code := s.x.Commit()
		s.x = s.j.Begin()
		return code
	})
}

func (g *ground) drop() {
	g.t.Helper()
	g.both(func(s *side) api.Errno {
		s.x.Drop()
		s.x = s.j.Begin()
		return api.OK
	})
}

// lay writes a block by hand.
func (g *ground) lay(b int, data []byte) {
	g.t.Helper()
	g.both(func(s *side) api.Errno { return s.x.Write(b, data) })
}

// wrote lets contents be, by hand: the bytes are laid over those of x by package file.
func (g *ground) wrote(x api.Inode, off int, data []byte) api.Inode {
	g.t.Helper()
	var y api.Inode
	g.both(func(s *side) (code api.Errno) {
		y, code = file.Write(s.x, g.l, x, off, data)
		return code
	})
	return y
}

// off lets the power fail.
func (g *ground) off() {
	for _, s := range []*side{&g.side, &g.w} {
		s.d.Arm(1)
		s.d.Flush()
	}
}

// added and removed are for calls that must not be refused.

func (g *ground) added(x api.Inode, list ...string) api.Inode {
	g.t.Helper()
	for _, name := range list {
		y, code := g.add(x, name, idOf(name))
		if code != api.OK {
			g.t.Fatalf("Add(%+v, %q) = %d", x, name, code)
		}
		x = y
	}
	return x
}

func (g *ground) removed(x api.Inode, list ...string) api.Inode {
	g.t.Helper()
	for _, name := range list {
		y, id, code := g.remove(x, name)
		if code != api.OK || id != idOf(name) {
			g.t.Fatalf("Remove(%+v, %q) = %d, %d", x, name, id, code)
		}
		x = y
	}
	return x
}

// idOf is the id that added gives to a name.
func idOf(name string) int {
	id := 1
	for _, b := range []byte(name) {
		id = (id*263 + int(b)) % (1<<49 - 1)
	}
	return 1 + id
}

// holds asks for the contents: these names, in this order.
func (g *ground) holds(x api.Inode, list ...string) {
	g.t.Helper()
	var want []byte
	for _, name := range list {
		want = append(want, bytesOf(name, uint64(idOf(name)))...)
	}
	got, code := file.Read(g.x, g.l, x, 0, 1<<20)
	if code != api.OK || !bytes.Equal(got, want) || x.Size != len(want) {
		g.t.Fatalf("the contents are %q, %d, want %q; Size %d", got, code, want, x.Size)
	}
}

// manyNames are n names, of each length that there is.
func manyNames(n int) []string {
	list := make([]string, n)
	for i := range list {
		s := fmt.Sprintf("%d-%s", i, strings.Repeat("x", i%24))
		list[i] = s[:min(23, len(s))]
	}
	return list
}

// full is a directory of n names that were added over several transactions.
func (g *ground) full(x api.Inode, n int) (api.Inode, []string) {
	g.t.Helper()
	list := manyNames(n)
	var b []byte
	for _, name := range list {
		b = append(b, bytesOf(name, uint64(idOf(name)))...)
	}
	for off := 0; off < len(b); off += 2048 {
		x = g.wrote(x, off, b[off:min(len(b), off+2048)])
		g.commit()
	}
	return x, list
}

func is[T comparable](t *testing.T, what string, got, want T) {
	t.Helper()
	if got != want {
		t.Errorf("%s: %v, want %v", what, got, want)
	}
}
