package tree_test

import (
	"slices"
	"strings"
	"testing"

	"annex/api"
)

// step does a request in a transaction of its own, which has a number of its own whether or not the operation writes.
func (g *ground) step(r api.Request) api.Reply {
	g.t.Helper()
	p, code := g.do(r)
	if code != api.OK {
		g.t.Fatalf("%+v: %d", r, code)
	}
	if len(g.x.Blocks()) == 0 {
		g.fill(1)
	}
	g.commit()
	return p
}

func (g *ground) answers(r api.Request, status api.Errno, a api.Attr) {
	g.t.Helper()
	if p := g.step(r); p.Status != status || p.Attr != a {
		g.t.Errorf("%+v: %d, %+v, want %d, %+v", r, p.Status, p.Attr, status, a)
	}
}

// TestP12_4Examples: the chapter's table, written out. The transactions are numbered from 2 on.
func TestP12_4Examples(t *testing.T) {
	g := groundOf(t, 4, 2000)
	none := api.Attr{}
	g.answers(look("/"), 0, api.Attr{Id: 256, Kind: 2, Change: 1})
	g.answers(op(5, 256, "a"), 0, api.Attr{Id: 257, Kind: 1, Change: 3})
	g.answers(write(257, 700, "hello"), 0, api.Attr{Id: 257, Kind: 1, Size: 705, Change: 4})
	zeros := strings.Repeat("\x00", 700)
	is(t, "READ 698", string(g.step(read(257, 698, 4)).Data), "\x00\x00he")
	is(t, "READ 705", string(g.step(read(257, 705, 1)).Data), "")
	is(t, "READ 0", string(g.step(read(257, 0, 1024)).Data), zeros+"hello")
	g.answers(op(7, 256, "d"), 0, api.Attr{Id: 258, Kind: 2, Change: 8})
	g.answers(op(5, 256, "a"), api.ErrExist, none)
	g.answers(op(5, 258, "a"), 0, api.Attr{Id: 259, Kind: 1, Change: 10})
	g.answers(op(5, 258, "b"), api.ErrInodes, none)
	g.answers(getattr(256), 0, api.Attr{Id: 256, Kind: 2, Size: 64, Change: 8})
	g.answers(write(259, 1290, "12345"), 0, api.Attr{Id: 259, Kind: 1, Size: 1295, Change: 13})
	g.answers(write(259, 1290, "123456"), api.ErrQuota, none)
	g.answers(write(259, 69632, "x"), api.ErrFBig, none)
	g.answers(look("/a/x"), api.ErrNotDir, none)
	g.answers(look("/x/y"), api.ErrNoEnt, none)
	g.answers(look("/d/a"), 0, api.Attr{Id: 259, Kind: 1, Size: 1295, Change: 13})
	g.answers(move(256, "d", 258, "e"), api.ErrInside, none)
	g.answers(move(256, "a", 256, "d"), api.ErrIsDir, none)
	g.answers(move(256, "d", 256, "a"), api.ErrNotDir, none)
	g.answers(op(8, 256, "d"), api.ErrNotEmpty, none)
	g.answers(move(258, "a", 256, "a"), 0, none)
	g.answers(look("/a"), 0, api.Attr{Id: 259, Kind: 1, Size: 1295, Change: 13})
	g.lists(list(256, "", 1), true, api.Entry{Name: "a", Id: 259, Kind: 1})
	g.lists(list(256, "a", 5), false, api.Entry{Name: "d", Id: 258, Kind: 2})
	g.answers(getattr(257), api.ErrStale, none)
	g.answers(getattr(513), api.ErrStale, none)
	g.answers(op(5, 258, "z"), 0, api.Attr{Id: 513, Kind: 1, Change: 29})
	g.answers(op(6, 256, "d"), api.ErrIsDir, none)
	g.answers(op(8, 256, "a"), api.ErrNotDir, none)
	g.answers(op(6, 256, "q"), api.ErrNoEnt, none)
}

func (g *ground) lists(r api.Request, more bool, want ...api.Entry) {
	g.t.Helper()
	if p := g.step(r); p.Status != api.OK || p.More != more || !slices.Equal(p.List, want) || p.Attr != (api.Attr{}) {
		g.t.Errorf("%+v: %+v, want %v, %v", r, p, want, more)
	}
}
