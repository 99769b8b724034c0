package inode_test

import (
	"bytes"
	"testing"

	"annex/api"
	"annex/inode"
)

// outside is every block that the transaction may read, as it sees it.
func (g *ground) outside() map[int][]byte {
	list := map[int][]byte{}
	for b := range g.l.Total {
		if data, code := g.x.Read(b); code == api.OK {
			list[b] = data
		}
	}
	return list
}

// onlySlot asks that nothing but the bytes of that slot has changed.
func (g *ground) onlySlot(what string, was map[int][]byte, s int) {
	g.t.Helper()
	for b, data := range g.outside() {
		if b == g.l.Table+s/4 {
			copy(data[s%4*128:], was[b][s%4*128:s%4*128+128])
		}
		if !bytes.Equal(data, was[b]) {
			g.t.Fatalf("%s of the slot %d has changed the block %d elsewhere", what, s, b)
		}
	}
}

// TestP9_6OneBlock: each call writes the slot's bytes of one block, and no others.
func TestP9_6OneBlock(t *testing.T) {
	for _, n := range []int{2, 6, 11} {
		g := groundOf(t, n)
		for s := range n {
			id := 256 + s
			at := g.l.Table + s/4
			was := g.outside()
			g.new(2, api.Inode{Id: id, Kind: 2, Change: g.x.Seq()}, api.OK)
			g.wrote("New", at)
			g.onlySlot("New", was, s)
			g.commit()
			g.put(sample(g.l, id, 2), api.OK)
			g.wrote("Put", at)
			g.onlySlot("Put", was, s)
			g.commit()
			g.get(id, sample(g.l, id, 2), api.OK)
			inode.All(g.x, g.l)
			g.wrote("Get and All")
		}
		for s := range n {
			was := g.outside()
			g.free(256+s, api.OK)
			g.wrote("Free", g.l.Table+s/4)
			g.onlySlot("Free", was, s)
			g.commit()
		}
	}
}

// TestP9_6NoSavepoint: the calls make none, and take none away.
func TestP9_6NoSavepoint(t *testing.T) {
	g := groundOf(t, 6)
	for mark := 1; mark < 8; mark += 2 {
		first, _ := g.x.Save()
		x, _ := inode.New(g.x, g.l, 1)
		inode.Put(g.x, g.l, x)
		inode.Get(g.x, g.l, x.Id)
		inode.All(g.x, g.l)
		inode.Free(g.x, g.l, x.Id)
		second, _ := g.x.Save()
		if first != mark || second != mark+1 {
			t.Errorf("the marks %d and %d, want %d and the next one", first, second, mark)
		}
	}
	if code := g.x.Back(1); code != api.OK {
		t.Errorf("Back(1) = %d", code)
	}
}

// TestP9_8TakenBack: what was done behind a savepoint is undone; the same ids come again, as nothing has been given.
func TestP9_8TakenBack(t *testing.T) {
	g := groundOf(t, 6)
	root, file := api.Inode{Id: 256, Kind: 2, Change: 1}, api.Inode{Id: 257, Kind: 1, Change: 1}
	g.new(2, root, api.OK)
	mark, _ := g.x.Save()
	for range 3 {
		g.new(1, file, api.OK)
		g.put(sample(g.l, 256, 2), api.OK)
		g.free(256, api.OK)
		g.all([]api.Inode{file}, api.OK)
		g.x.Back(mark)
		g.all([]api.Inode{root}, api.OK)
		g.get(257, api.Inode{}, api.ErrStale)
	}
}

// TestP9_8Dropped: nothing of it stays.
func TestP9_8Dropped(t *testing.T) {
	g := groundOf(t, 6)
	for range 2 {
		g.new(1, api.Inode{Id: 256, Kind: 1, Change: 1}, api.OK)
		g.x.Drop()
		g.begin()
		g.all(nil, api.OK)
	}
	root := api.Inode{Id: 256, Kind: 2, Change: 1}
	g.new(2, root, api.OK)
	g.commit()
	g.put(sample(g.l, 256, 2), api.OK)
	g.free(256, api.OK)
	g.x.Drop()
	g.begin()
	g.get(256, root, api.OK)
}

// TestP9_8Committed: it is there for later transactions, in the log alone, at home, and opened anew.
func TestP9_8Committed(t *testing.T) {
	g := groundOf(t, 6)
	root, file := sample(g.l, 256, 2), api.Inode{Id: 513, Kind: 1, Change: 1}
	there := func() {
		t.Helper()
		g.all([]api.Inode{root, file}, api.OK)
		g.get(256, root, api.OK)
		g.get(513, file, api.OK)
		g.get(257, api.Inode{}, api.ErrStale)
	}
	g.new(2, api.Inode{Id: 256, Kind: 2, Change: 1}, api.OK)
	g.put(root, api.OK)
	g.new(1, api.Inode{Id: 257, Kind: 1, Change: 1}, api.OK)
	g.free(257, api.OK)
	g.new(1, file, api.OK)
	there()
	g.commit()
	there()
	if code := g.j.Check(); code != api.OK {
		t.Fatalf("Check: %d", code)
	}
	there()
	home, _ := g.d.Read(g.l.Table)
	if !bytes.Equal(home[:128], place{1, true, root}.record()) || !bytes.Equal(home[128:256], place{2, true, file}.record()) {
		t.Errorf("the device has %x", home[:256])
	}
	g.d.Crash(nil)
	g.open()
	there()
}
