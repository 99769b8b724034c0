package tree_test

import (
	"bytes"
	"cmp"
	"math/rand"
	"slices"
	"testing"

	"annex/api"
	"annex/device"
	"annex/inode"
	"annex/journal"
	"annex/plan"
	"annex/tree"
)

// side is a device, a journal there, and its open transaction.
type side struct {
	d *device.Device
	j *journal.Journal
	x *journal.Tx
}

// ground is two devices of one layout that hold the same: on the one the package works, on the other the second telling of the chapter.
type ground struct {
	t *testing.T
	l api.Layout
	side
	w side
}

func shapeOf(slots, quota int) api.Shape {
	data := max(8, (quota+511)/512+4*slots)
	return api.Shape{Clients: 1, Window: 1, Places: 1, Cache: 1, Inodes: slots, Quota: quota, Data: data, Journal: 27}
}

func layoutOf(t *testing.T, s api.Shape) api.Layout {
	t.Helper()
	l, code := plan.Plan(s)
	if code != api.OK {
		t.Fatalf("Plan(%+v): %d", s, code)
	}
	return l
}

func noise(seed int64, n int) []byte {
	b := make([]byte, n)
	rand.New(rand.NewSource(seed)).Read(b)
	return b
}

// bare has zeros in the table and in the bitmap of the data blocks, and noise in all other blocks but the journal's.
func bare(t *testing.T, slots, quota int) *ground {
	t.Helper()
	l := layoutOf(t, shapeOf(slots, quota))
	image := noise(int64(slots), l.Total*512)
	clear(image[l.Table*512 : (l.Table+l.TableLen)*512])
	for i := range l.DataLen {
		image[l.Bits*512+i/8] &^= 1 << (i % 8)
	}
	return &ground{t, l, sideOf(t, l, image), sideOf(t, l, image)}
}

// groundOf is a tree just formatted; its transaction has the number 2.
func groundOf(t *testing.T, slots, quota int) *ground {
	t.Helper()
	g := bare(t, slots, quota)
	is(t, "Format", tree.Format(g.x, g.l), api.OK)
	_, code := inode.New(g.w.x, g.l, 2)
	is(t, "New", code, api.OK)
	g.same("Format")
	g.commit()
	return g
}

func sideOf(t *testing.T, l api.Layout, image []byte) side {
	t.Helper()
	d, code := device.Image(image)
	if code != api.OK {
		t.Fatalf("Image: %d", code)
	}
	if code := journal.Format(d, l.Journal, l.JournalLen); code != api.OK {
		t.Fatalf("Format: %d", code)
	}
	s := side{d: d}
	s.open(t, l)
	return s
}

func (s *side) open(t *testing.T, l api.Layout) {
	t.Helper()
	j, _, code := journal.Open(s.d, l.Journal, l.JournalLen)
	if code != api.OK {
		t.Fatalf("Open: %d", code)
	}
	s.j, s.x = j, j.Begin()
}

// both does a thing on both devices.
func (g *ground) both(do func(s *side) api.Errno) {
	g.t.Helper()
	if one, two := do(&g.side), do(&g.w); one != api.OK || two != api.OK {
		g.t.Fatalf("on both devices: %d, %d", one, two)
	}
}

func (g *ground) commit() {
	g.t.Helper()
	g.both(func(s *side) api.Errno {
		code := s.x.Commit()
		s.x = s.j.Begin()
		return code
	})
}

func (g *ground) drop() {
	g.t.Helper()
	g.both(func(s *side) api.Errno {
		s.x.Drop()
		s.x = s.j.Begin()
		return api.OK
	})
}

// off lets the power fail.
func (g *ground) off() {
	for _, s := range []*side{&g.side, &g.w} {
		s.d.Arm(1)
		s.d.Flush()
	}
}

// lay writes a block by hand.
func (g *ground) lay(b int, data []byte) {
	g.t.Helper()
	g.both(func(s *side) api.Errno { return s.x.Write(b, data) })
}

// fill lets the transaction write blocks that no operation does; they stay as they are.
func (g *ground) fill(many int) {
	g.t.Helper()
	others := []int{0, g.l.Boot}
	for b := g.l.Ledger; b < g.l.Bits; b++ {
		others = append(others, b)
	}
	for b := g.l.Data + g.l.DataLen - 1; len(others) < 24; b-- {
		others = append(others, b)
	}
	for _, b := range others[:many] {
		data, code := g.x.Read(b)
		is(g.t, "Read", code, api.OK)
		g.lay(b, data)
	}
}

// get is an inode that must be there.
func (g *ground) get(id int) api.Inode {
	g.t.Helper()
	x, code := inode.Get(g.x, g.l, id)
	if code != api.OK {
		g.t.Fatalf("Get(%d): %d", id, code)
	}
	return x
}

// do does an operation on both devices, and holds the answers and all blocks against each other. Behind an error both transactions are dropped.
func (g *ground) do(r api.Request) (api.Reply, api.Errno) {
	g.t.Helper()
	if r.Seq == 0 {
		r.Client, r.Seq, r.Ack, r.Epoch = 3, 7, 2, 9
	}
	want, code := teller{g.w.x, g.l}.do(r)
	got, e := tree.Do(g.x, g.l, r)
	if !sameReply(got, want) || e != code {
		g.t.Fatalf("Do(%+v) = %+v, %d, want %+v, %d", r, got, e, want, code)
	}
	if e != api.OK {
		g.drop()
	} else {
		g.same("Do")
	}
	return got, e
}

func sameReply(a, b api.Reply) bool {
	if !bytes.Equal(a.Data, b.Data) || !slices.Equal(a.List, b.List) {
		return false
	}
	return a.Client == b.Client && a.Seq == b.Seq && a.Epoch == b.Epoch && a.Op == b.Op && a.Status == b.Status && a.Attr == b.Attr && a.More == b.More
}

// same asks for each block outside the journal, and for which of them have been written.
func (g *ground) same(what string) {
	g.t.Helper()
	if got, want := g.x.Blocks(), g.w.x.Blocks(); !slices.Equal(got, want) {
		g.t.Fatalf("%s: the blocks %v have been written, want %v (Bits %d, Table %d, Data %d)", what, got, want, g.l.Bits, g.l.Table, g.l.Data)
	}
	for b := range g.l.Total {
		if b >= g.l.Journal && b < g.l.Journal+g.l.JournalLen {
			continue
		}
		got, one := g.x.Read(b)
		want, two := g.w.x.Read(b)
		if one != api.OK || two != api.OK || !bytes.Equal(got, want) {
			g.t.Fatalf("%s: the block %d is another one (%d, %d)", what, b, one, two)
		}
	}
}

// ok, status and fault are for answers that are known.

func (g *ground) ok(r api.Request) api.Reply {
	g.t.Helper()
	p, code := g.do(r)
	if code != api.OK || p.Status != api.OK {
		g.t.Fatalf("%+v: %d, %d", r, p.Status, code)
	}
	return p
}

func (g *ground) status(r api.Request, want api.Errno) {
	g.t.Helper()
	p, code := g.do(r)
	if code != api.OK || p.Status != want {
		g.t.Errorf("%+v: the Status %d, the error %d, want the Status %d", r, p.Status, code, want)
	}
}

func (g *ground) fault(r api.Request, want api.Errno) {
	g.t.Helper()
	p, code := g.do(r)
	if code != want || !sameReply(p, api.Reply{}) {
		g.t.Errorf("%+v: %+v, %d, want the error %d", r, p, code, want)
	}
}

func (g *ground) attr(r api.Request, want api.Attr) {
	g.t.Helper()
	is(g.t, "Attr", g.ok(r).Attr, want)
}

// made makes files and directories; the name of a directory ends with a dot. Their ids.
func (g *ground) made(in int, list ...string) []int {
	g.t.Helper()
	var ids []int
	for _, name := range list {
		r := op(api.Create, in, name)
		if name[len(name)-1] == '.' {
			r.Op = api.Mkdir
		}
		ids = append(ids, g.ok(r).Attr.Id)
		g.commit()
	}
	return ids
}

// Requests.

func op(o, id int, name string) api.Request { return api.Request{Op: o, Id: id, Name: name} }

func write(id, off int, b string) api.Request {
	return api.Request{Op: api.Write, Id: id, Off: off, Data: []byte(b)}
}

func read(id, off, n int) api.Request { return api.Request{Op: api.Read, Id: id, Off: off, Len: n} }

func move(id int, name string, id2 int, name2 string) api.Request {
	return api.Request{Op: api.Rename, Id: id, Name: name, Id2: id2, Name2: name2}
}

func look(path string) api.Request { return api.Request{Op: api.Lookup, Path: path} }

func list(id int, name string, n int) api.Request {
	return api.Request{Op: api.Readdir, Id: id, Name: name, Len: n}
}

func getattr(id int) api.Request { return api.Request{Op: api.Getattr, Id: id} }

func is[T comparable](t *testing.T, what string, got, want T) {
	t.Helper()
	if got != want {
		t.Errorf("%s: %v, want %v", what, got, want)
	}
}

func byName(a, b api.Entry) int { return cmp.Compare(a.Name, b.Name) }
