package tree_test

import (
	"fmt"
	"strings"
	"testing"

	"annex/api"
)

func TestP12_4Lookup(t *testing.T) {
	g := small(t)
	g.attr(look("/"), api.Attr{Id: 256, Kind: 2, Size: 96, Change: 5})
	g.attr(look("/f"), api.Attr{Id: 257, Kind: 1, Size: 8, Change: 6})
	g.attr(look("/d"), api.Attr{Id: 258, Kind: 2, Size: 32, Change: 4})
	g.attr(look("/d/g"), api.Attr{Id: 259, Kind: 1, Change: 4})
	g.attr(look("/e"), api.Attr{Id: 260, Kind: 2, Change: 5})
	for path, want := range map[string]api.Errno{
		"/x": api.ErrNoEnt, "/F": api.ErrNoEnt, "/ff": api.ErrNoEnt, "/d/f": api.ErrNoEnt, "/e/g": api.ErrNoEnt, "/x/f": api.ErrNoEnt, "/d/x/g": api.ErrNoEnt,
		"/f/f": api.ErrNotDir, "/f/x/y": api.ErrNotDir, "/d/g/x": api.ErrNotDir, "/d/g/x/y": api.ErrNotDir,
	} {
		g.status(look(path), want)
	}
	is(t, "blocks written", len(g.x.Blocks()), 0)
}

// TestP12_4LookupDeep: sixteen names, the longest that there are.
func TestP12_4LookupDeep(t *testing.T) {
	g := groundOf(t, 20, 0)
	path, in := "", 256
	for i := range 16 {
		name := fmt.Sprintf("%s%02d", strings.Repeat("\xfe", 21), i)
		path += "/" + name
		g.status(look(path), api.ErrNoEnt)
		in = g.ok(op(api.Mkdir, in, name)).Attr.Id
		g.commit()
		is(t, "LOOKUP", g.ok(look(path)).Attr.Id, in)
	}
	is(t, "bytes of the path", len(path), 384)
	is(t, "below its reach", g.ok(op(api.Create, in, "deeper")).Attr.Id, 256+17)
}

func TestP12_4Getattr(t *testing.T) {
	g := small(t)
	for id, want := range map[int]api.Attr{
		256: {Id: 256, Kind: 2, Size: 96, Change: 5}, 257: {Id: 257, Kind: 1, Size: 8, Change: 6}, 258: {Id: 258, Kind: 2, Size: 32, Change: 4},
		259: {Id: 259, Kind: 1, Change: 4}, 260: {Id: 260, Kind: 2, Change: 5},
	} {
		g.attr(getattr(id), want)
	}
	for _, id := range []int{1, 255, 261, 262, 512, 513, 516, 1<<49 - 1} {
		g.status(getattr(id), api.ErrStale)
	}
	is(t, "blocks written", len(g.x.Blocks()), 0)
}

// TestP12_4Read: each edge of the offset and the length, over a hole too.
func TestP12_4Read(t *testing.T) {
	g := small(t)
	g.ok(write(259, 1000, "behind a hole"))
	row := make([]byte, 1000)
	row = append(row, "behind a hole"...)
	for _, off := range []int{0, 1, 511, 512, 999, 1000, 1012, 1013, 1014, 69631, 69632} {
		for _, n := range []int{1, 2, 12, 13, 14, 512, 513, 1023, 1024} {
			p := g.ok(read(259, off, n))
			is(t, fmt.Sprint("READ ", off, " ", n), string(p.Data), string(row[min(off, 1013):min(off+n, 1013)]))
			is(t, "Attr", p.Attr, api.Attr{Id: 259, Kind: 1, Size: 1013, Change: 7})
		}
	}
	g.status(read(256, 0, 1), api.ErrIsDir)
	g.status(read(258, 0, 1), api.ErrIsDir)
	g.status(read(260, 69632, 1), api.ErrIsDir)
	g.status(read(515, 0, 1), api.ErrStale)
	g.status(read(255, 0, 1), api.ErrStale)
}

// TestP12_4Write: what is written is there, the size grows or stays, the file is stamped in any case.
func TestP12_4Write(t *testing.T) {
	g := groundOf(t, 3, 20000)
	g.ok(op(api.Create, 256, "f"))
	g.commit()
	row := []byte{}
	for i, c := range []struct {
		off  int
		data string
	}{{0, "abc"}, {1, "X"}, {2, "YZ"}, {510, "1234"}, {0, strings.Repeat("q", 1024)}, {4090, strings.Repeat("r", 20)}, {4000, "in a hole"}, {9999, "e"}, {9999, "f"}, {0, strings.Repeat("s", 1024)}} {
		p := g.ok(write(257, c.off, c.data))
		for len(row) < c.off+len(c.data) {
			row = append(row, 0)
		}
		copy(row[c.off:], c.data)
		is(t, fmt.Sprint("WRITE ", i), p.Attr, api.Attr{Id: 257, Kind: 1, Size: len(row), Change: 3 + i})
		is(t, "the inode's Change", g.get(257).Change, 3+i)
		is(t, "the root's Change", g.get(256).Change, 2)
		for off := 0; off < len(row); off += 1024 {
			is(t, "READ", string(g.ok(read(257, off, 1024)).Data), string(row[off:min(len(row), off+1024)]))
		}
		g.commit()
	}
}

// TestP12_4WriteOrder: of several Statuses that apply the first one is the answer.
func TestP12_4WriteOrder(t *testing.T) {
	g := groundOf(t, 4, 600)
	g.made(256, "f", "d.")
	g.status(write(999, 69632, "a"), api.ErrStale)
	g.status(write(258, 69632, "a"), api.ErrIsDir)
	g.status(write(258, 601, "a"), api.ErrIsDir)
	g.status(write(258, 0, "a"), api.ErrIsDir)
	g.status(write(256, 0, "a"), api.ErrIsDir)
	g.status(write(257, 69632, "a"), api.ErrFBig)
	g.status(write(257, 69631, "ab"), api.ErrFBig)
	g.status(write(257, 68609, strings.Repeat("a", 1024)), api.ErrFBig)
	g.status(write(257, 69631, "a"), api.ErrQuota)
	g.status(write(257, 68608, strings.Repeat("a", 1024)), api.ErrQuota)
	g.status(write(257, 600, "a"), api.ErrQuota)
	g.status(write(257, 599, "ab"), api.ErrQuota)
	is(t, "blocks written", len(g.x.Blocks()), 0)
	g.status(write(257, 599, "a"), api.OK)
}

// TestP12_4Greatest: a file of the greatest size.
func TestP12_4Greatest(t *testing.T) {
	g := groundOf(t, 2, 69632)
	g.made(256, "f")
	is(t, "Size", g.ok(write(257, 69631, "e")).Attr.Size, 69632)
	is(t, "Size", g.ok(write(257, 68608, strings.Repeat("z", 1024))).Attr.Size, 69632)
	is(t, "READ", string(g.ok(read(257, 69632-3, 1024)).Data), "zzz")
	is(t, "READ", len(g.ok(read(257, 69632, 1024)).Data), 0)
	g.status(write(257, 69632, "e"), api.ErrFBig)
	g.status(write(257, 69631, "ee"), api.ErrFBig)
}

// TestP12_6Usage: what is written and made is told, what is removed is not.
func TestP12_6Usage(t *testing.T) {
	g := groundOf(t, 6, 2000)
	g.usage(0, 1)
	g.ok(op(api.Create, 256, "f"))
	g.usage(0, 2)
	g.ok(write(257, 100, "abc"))
	g.usage(103, 2)
	g.ok(op(api.Mkdir, 256, "d"))
	g.usage(103, 3)
	g.ok(op(api.Create, 258, "g"))
	g.ok(write(259, 1896, "x"))
	g.usage(2000, 4)
	g.status(write(257, 103, "x"), api.ErrQuota)
	g.usage(2000, 4)
	g.commit()
	g.ok(write(257, 0, "x"))
	g.usage(2000, 4)
	g.ok(move(258, "g", 256, "f"))
	g.usage(1897, 3)
	g.ok(op(api.Rmdir, 256, "d"))
	g.usage(1897, 2)
	g.ok(op(api.Remove, 256, "f"))
	g.usage(0, 1)
	g.drop()
	g.usage(2000, 4)
}
