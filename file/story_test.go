package file_test

import (
	"bytes"
	"fmt"
	"maps"
	"math/rand"
	"slices"
	"testing"

	"annex/api"
	"annex/file"
	"annex/inode"
	"annex/space"
)

// rows are what plain rows of bytes hold: by id.
type rows map[int][]byte

func (w rows) clone() rows {
	c := rows{}
	for id, row := range w {
		c[id] = slices.Clone(row)
	}
	return c
}

// write lays data over a row; bytes 0 between its old end and off.
func (w rows) write(id, off int, data []byte) {
	for len(w[id]) < off+len(data) {
		w[id] = append(w[id], 0)
	}
	copy(w[id][off:], data)
}

// story is a ground with some inodes, and the rows of bytes that their contents must be.
type story struct {
	*ground
	r     *rand.Rand
	ids   []int
	stays rows         // by the transactions that were committed
	now   rows         // as the open transaction sees it
	saves map[int]rows // by mark
}

// TestP10_6Stories: Write and Cut by chance, of several inodes, over transactions that are committed, dropped, taken back and cut off by the power; the blocks run out, too. They run side by side: one does not hear of the other.
func TestP10_6Stories(t *testing.T) {
	for seed := range int64(100) {
		t.Run(fmt.Sprint(seed), func(t *testing.T) {
			t.Parallel()
			r := rand.New(rand.NewSource(seed))
			s := newStory(t, r, []int{12, 16, 30, 80, 200}[seed%5])
			for range 150 {
				s.step()
				s.holds()
			}
			s.end()
		})
	}
}

func newStory(t *testing.T, r *rand.Rand, data int) *story {
	s := &story{ground: groundOf(t, data), r: r, stays: rows{}}
	third, code := inode.New(s.x, s.l, api.File)
	is(t, "New", code, api.OK)
	if code := s.x.Commit(); code != api.OK {
		t.Fatalf("Commit: %d", code)
	}
	s.begin()
	s.ids = []int{first.Id, second.Id, third.Id}
	s.anew()
	return s
}

func (s *story) anew() { s.now, s.saves = s.stays.clone(), map[int]rows{} }

func (s *story) kept() { s.stays = s.now; s.anew() }

func (s *story) get(id int) api.Inode {
	s.t.Helper()
	x, code := inode.Get(s.x, s.l, id)
	if code != api.OK {
		s.t.Fatalf("Get(%d): %d", id, code)
	}
	return x
}

// holds asks for everything that P10.6 tells.
func (s *story) holds() {
	s.t.Helper()
	var all []int
	for _, id := range s.ids {
		x := s.get(id)
		if got, code := file.Read(s.x, s.l, x, 0, 70000); code != api.OK || !bytes.Equal(got, s.now[id]) {
			s.t.Fatalf("the contents of %d are %d bytes, %d, want %d", id, len(got), code, len(s.now[id]))
		}
		list, code := file.Blocks(s.x, s.l, x)
		if code != api.OK || !slices.IsSorted(list) {
			s.t.Fatalf("Blocks: %v, %d", list, code)
		}
		all = append(all, list...)
		s.noneBehind(x)
	}
	slices.Sort(all)
	if many, _ := space.Used(s.x, s.l); many != len(all) || len(slices.Compact(all)) != many {
		s.t.Fatalf("%d blocks are in use, those of the inodes are %v", many, all)
	}
	for _, b := range all {
		if used, code := space.Has(s.x, s.l, b); !used || code != api.OK {
			s.t.Fatalf("the block %d is not in use", b)
		}
	}
}

// noneBehind: there is no block behind the piece of the last byte, and an indirect block only where contents reach its pieces.
func (s *story) noneBehind(x api.Inode) {
	s.t.Helper()
	for p, b := range x.Direct {
		if b != 0 && p*512 >= x.Size {
			s.t.Fatalf("%+v has a block behind its end", x)
		}
	}
	if x.Indirect == 0 {
		return
	}
	if x.Size <= 4096 {
		s.t.Fatalf("%+v has an indirect block", x)
	}
	block, _ := s.x.Read(x.Indirect)
	for p := 8; p < 136; p++ {
		if !bytes.Equal(block[4*p-32:4*p-28], make([]byte, 4)) && p*512 >= x.Size {
			s.t.Fatalf("%+v has a block behind its end: the piece %d", x, p)
		}
	}
}

func (s *story) step() {
	s.t.Helper()
	switch s.r.Intn(20) {
	case 0:
		s.x.Drop()
		s.begin()
		s.anew()
	case 1, 2, 3:
		s.commitAll()
	case 4:
		mark, _ := s.x.Save()
		s.saves[mark] = s.now.clone()
	case 5:
		s.takeBack(1 + s.r.Intn(4))
	case 6:
		s.cutOff()
	case 7, 8, 9, 10:
		id := s.ids[s.r.Intn(3)]
		s.doCut(id, s.r.Intn(1+len(s.now[id])))
	default:
		s.doWrite(s.ids[s.r.Intn(3)])
	}
}

func (s *story) commitAll() {
	s.t.Helper()
	s.commit()
	s.kept()
}

// doWrite and doCut: a call that meets a full device or a full transaction is taken back.

func (s *story) doWrite(id int) {
	s.t.Helper()
	n := []int{1 + s.r.Intn(1024), 1 + s.r.Intn(4), 512}[s.r.Intn(3)]
	off := []int{s.r.Intn(len(s.now[id]) + 1), s.r.Intn(6000), s.r.Intn(69633 - n), min(512*s.r.Intn(136), 69632-n)}[s.r.Intn(4)]
	data := noise(s.r.Int63(), n)
	mark, _ := s.x.Save()
	many := len(s.x.Blocks())
	x, code := file.Write(s.x, s.l, s.get(id), off, data)
	s.after(mark, code, x, func() { s.now.write(id, off, data) })
	if code == api.OK && len(s.x.Blocks()) > many+6 {
		s.t.Fatalf("Write(%d, %d bytes) has written %d blocks", off, n, len(s.x.Blocks())-many)
	}
}

func (s *story) doCut(id, size int) {
	s.t.Helper()
	if s.r.Intn(8) == 0 {
		size = 0
	}
	mark, _ := s.x.Save()
	x, code := file.Cut(s.x, s.l, s.get(id), size)
	s.after(mark, code, x, func() { s.now[id] = s.now[id][:size] })
}

func (s *story) after(mark int, code api.Errno, x api.Inode, tell func()) {
	s.t.Helper()
	switch code {
	case api.OK:
		tell()
		is(s.t, "the record is the answer", s.get(x.Id), x)
	case api.ErrSpace, api.ErrTxBig:
		is(s.t, "with an error", x, api.Inode{})
		if code := s.x.Back(mark); code != api.OK {
			s.t.Fatalf("Back: %d", code)
		}
	default:
		s.t.Fatalf("the call answers %d", code)
	}
}

func (s *story) takeBack(mark int) {
	s.t.Helper()
	was, ok := s.saves[mark]
	if !ok {
		return
	}
	if code := s.x.Back(mark); code != api.OK {
		s.t.Fatalf("Back(%d): %d", mark, code)
	}
	s.now = was.clone()
	maps.DeleteFunc(s.saves, func(m int, _ rows) bool { return m > mark })
}

// cutOff lets the power fail while the transaction is committed, and a part of what pends survive: all of it is there, or nothing.
func (s *story) cutOff() {
	s.t.Helper()
	s.d.Arm(1 + s.r.Intn(12))
	code := s.x.Commit()
	if code != api.OK && code != api.ErrPower {
		s.t.Fatalf("Commit: %d", code)
	}
	keep := make([]bool, s.r.Intn(30))
	for i := range keep {
		keep[i] = s.r.Intn(2) == 0
	}
	s.d.Crash(keep)
	s.open()
	if code == api.OK || s.isThere(s.now) {
		s.kept()
		return
	}
	s.anew()
}

func (s *story) isThere(w rows) bool {
	s.t.Helper()
	for _, id := range s.ids {
		if got, code := file.Read(s.x, s.l, s.get(id), 0, 70000); code != api.OK || !bytes.Equal(got, w[id]) {
			return false
		}
	}
	return true
}

// end cuts all to nothing: all blocks are given back.
func (s *story) end() {
	s.t.Helper()
	s.commitAll()
	for _, id := range s.ids {
		was := s.get(id)
		x, code := file.Cut(s.x, s.l, was, 0)
		is(s.t, "Cut(0)", code, api.OK)
		is(s.t, "cut to nothing", x, api.Inode{Id: id, Kind: was.Kind, Change: was.Change})
	}
	many, code := space.Used(s.x, s.l)
	is(s.t, "blocks in use", many, 0)
	is(s.t, "Used", code, api.OK)
}

// TestP10_6ThereAndBack: each block of the device used up, given back, and used again.
func TestP10_6ThereAndBack(t *testing.T) {
	g := groundOf(t, 40)
	for round := range 3 {
		x := first
		for off := 0; ; off += 512 {
			y, code := g.write(x, off, noise(int64(off+round), 512))
			if code == api.ErrSpace {
				break
			}
			is(t, "Write", code, api.OK)
			x = y
			g.commit()
		}
		is(t, "bytes that have room in 40 blocks", x.Size, 39*512)
		is(t, "cut to nothing", g.cutTo(x, 0), first)
		g.commit()
		many, _ := space.Used(g.x, g.l)
		is(t, "blocks in use", many, 0)
	}
}

// TestP10_6Committed: it is there for later transactions, in the log alone, at home, and opened anew; dropped it is not.
func TestP10_6Committed(t *testing.T) {
	g := groundOf(t, 40)
	x := g.wrote(first, 4000, "over two pieces, and the indirect block")
	x = g.wrote(x, 4090, "0123456789")
	want := string(make([]byte, 4000)) + "over two pieces, and the indirect block" + string(make([]byte, 51)) + "0123456789"
	g.reads(x, 0, 9999, want)
	g.commit()
	g.reads(x, 0, 9999, want)
	is(t, "Check", g.j.Check(), api.OK)
	g.reads(x, 0, 9999, want)
	g.d.Crash(nil)
	g.open()
	g.reads(x, 0, 9999, want)
	record, _ := inode.Get(g.x, g.l, x.Id)
	is(t, "the record", record, x)
	g.cutTo(x, 4050)
	g.wrote(second, 0, "gone")
	g.x.Drop()
	g.w = &told{g.l, g.was(), nil}
	g.begin()
	g.reads(x, 0, 9999, want)
	record, _ = inode.Get(g.x, g.l, x.Id)
	is(t, "the record", record, x)
}
