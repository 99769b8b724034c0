package tree_test

import (
	"fmt"
	"testing"

	"annex/api"
)

// yard is a tree in which everything may be moved: a file "f" (257) of 3 bytes, a file "g" (258) of 5000, a directory "d" (259) with "df" (260), "dd." (261) and in that "ddf" (262), empty directories "e" (263) and "h" (264); one slot is free. The transaction is the thirteenth.
func yard(t *testing.T) *ground {
	t.Helper()
	g := groundOf(t, 10, 20000)
	for _, r := range []api.Request{
		op(api.Create, 256, "f"), op(api.Create, 256, "g"), op(api.Mkdir, 256, "d"), op(api.Create, 259, "df"), op(api.Mkdir, 259, "dd."), op(api.Create, 261, "ddf"),
		op(api.Mkdir, 256, "e"), op(api.Mkdir, 256, "h"), write(257, 0, "abc"), write(258, 4999, "z"), write(260, 0, "df"),
	} {
		g.ok(r)
		g.commit()
	}
	is(t, "Seq", g.x.Seq(), 13)
	return g
}

// names is what a directory holds: its entries' names and ids.
func (g *ground) names(id int) string {
	g.t.Helper()
	text := ""
	for _, e := range g.ok(list(id, "", 16)).List {
		text += fmt.Sprint(e.Name, " ", e.Id, " ", e.Kind, ", ")
	}
	return text
}

// TestP12_4Rename: moves that are done: to a free name, in the same directory and in another one, over files and over empty directories.
func TestP12_4Rename(t *testing.T) {
	for _, c := range []struct {
		r        api.Request
		from, to string
		gone     int
	}{
		{move(256, "f", 256, "x"), "d 259 2, e 263 2, g 258 1, h 264 2, x 257 1, ", "", 0},
		{move(256, "f", 256, "a"), "a 257 1, d 259 2, e 263 2, g 258 1, h 264 2, ", "", 0},
		{move(256, "f", 259, "f"), "d 259 2, e 263 2, g 258 1, h 264 2, ", "dd. 261 2, df 260 1, f 257 1, ", 0},
		{move(256, "f", 261, "ddf"), "d 259 2, e 263 2, g 258 1, h 264 2, ", "ddf 257 1, ", 262},
		{move(256, "f", 256, "g"), "d 259 2, e 263 2, g 257 1, h 264 2, ", "", 258},
		{move(256, "g", 256, "f"), "d 259 2, e 263 2, f 258 1, h 264 2, ", "", 257},
		{move(259, "df", 256, "f"), "dd. 261 2, ", "d 259 2, e 263 2, f 260 1, g 258 1, h 264 2, ", 257},
		{move(259, "df", 263, "f"), "dd. 261 2, ", "f 260 1, ", 0},
		{move(256, "d", 256, "x"), "e 263 2, f 257 1, g 258 1, h 264 2, x 259 2, ", "", 0},
		{move(256, "d", 256, "e"), "e 259 2, f 257 1, g 258 1, h 264 2, ", "", 263},
		{move(256, "d", 263, "d"), "e 263 2, f 257 1, g 258 1, h 264 2, ", "d 259 2, ", 0},
		{move(259, "dd.", 256, "h"), "df 260 1, ", "d 259 2, e 263 2, f 257 1, g 258 1, h 261 2, ", 264},
		{move(256, "e", 256, "h"), "d 259 2, f 257 1, g 258 1, h 263 2, ", "", 264},
		{move(256, "h", 256, "e"), "d 259 2, e 264 2, f 257 1, g 258 1, ", "", 263},
		{move(256, "e", 261, "e"), "d 259 2, f 257 1, g 258 1, h 264 2, ", "ddf 262 1, e 263 2, ", 0},
	} {
		g := yard(t)
		moved := g.moved(c.r)
		is(t, "the reply", sameReply(g.ok(c.r), api.Reply{Client: 3, Seq: 7, Op: api.Rename}), true)
		is(t, fmt.Sprintf("%+v: the directory", c.r), g.names(c.r.Id), c.from)
		if c.to != "" {
			is(t, fmt.Sprintf("%+v: the other one", c.r), g.names(c.r.Id2), c.to)
		}
		is(t, "the Change of the directory", g.get(c.r.Id).Change, 13)
		is(t, "the Change of the other one", g.get(c.r.Id2).Change, 13)
		is(t, "what moved", g.get(moved.Id), moved)
		if c.gone > 0 {
			g.status(getattr(c.gone), api.ErrStale)
		}
		for id := 256; id <= 264; id++ {
			if id != c.r.Id && id != c.r.Id2 && id != c.gone && g.get(id).Change == 13 {
				t.Errorf("%+v: %d is stamped", c.r, id)
			}
		}
	}
}

// moved is the inode that a RENAME will move.
func (g *ground) moved(r api.Request) api.Inode {
	g.t.Helper()
	for _, e := range g.ok(list(r.Id, "", 16)).List {
		if e.Name == r.Name {
			return g.get(e.Id)
		}
	}
	g.t.Fatalf("%+v moves nothing", r)
	return api.Inode{}
}

// TestP12_4RenameOwnPlace: nothing is done.
func TestP12_4RenameOwnPlace(t *testing.T) {
	g := yard(t)
	for _, r := range []api.Request{move(256, "f", 256, "f"), move(256, "d", 256, "d"), move(256, "e", 256, "e"), move(261, "ddf", 261, "ddf"), move(259, "dd.", 259, "dd.")} {
		g.status(r, api.OK)
	}
	is(t, "blocks written", len(g.x.Blocks()), 0)
	g.status(move(256, "x", 256, "x"), api.ErrNoEnt)
	g.status(move(257, "f", 257, "f"), api.ErrNotDir)
	g.status(move(513, "f", 513, "f"), api.ErrStale)
}

// TestP12_4RenameStatuses: each of them, and of several that apply the first one.
func TestP12_4RenameStatuses(t *testing.T) {
	g := yard(t)
	for _, c := range []struct {
		r    api.Request
		want api.Errno
	}{
		{move(9, "f", 9, "x"), api.ErrStale}, {move(513, "x", 257, "x"), api.ErrStale}, {move(513, "f", 256, "f"), api.ErrStale},
		{move(257, "f", 9, "x"), api.ErrNotDir}, {move(257, "f", 256, "x"), api.ErrNotDir}, {move(258, "x", 257, "x"), api.ErrNotDir},
		{move(256, "f", 9, "x"), api.ErrStale}, {move(256, "x", 9, "x"), api.ErrStale}, {move(256, "d", 520, "x"), api.ErrStale},
		{move(256, "f", 257, "x"), api.ErrNotDir}, {move(256, "x", 257, "x"), api.ErrNotDir}, {move(256, "d", 260, "x"), api.ErrNotDir},
		{move(256, "x", 256, "f"), api.ErrNoEnt}, {move(256, "df", 259, "df"), api.ErrNoEnt}, {move(263, "e", 256, "e"), api.ErrNoEnt}, {move(263, "e", 263, "e"), api.ErrNoEnt},
		{move(256, "d", 259, "x"), api.ErrInside}, {move(256, "d", 259, "d"), api.ErrInside}, {move(256, "d", 259, "df"), api.ErrInside}, {move(256, "d", 259, "dd."), api.ErrInside},
		{move(256, "d", 261, "x"), api.ErrInside}, {move(256, "d", 261, "ddf"), api.ErrInside}, {move(259, "dd.", 261, "dd."), api.ErrInside}, {move(256, "e", 263, "e"), api.ErrInside},
		{move(256, "f", 256, "d"), api.ErrIsDir}, {move(256, "f", 256, "e"), api.ErrIsDir}, {move(259, "df", 256, "d"), api.ErrIsDir}, {move(261, "ddf", 259, "dd."), api.ErrIsDir},
		{move(256, "d", 256, "f"), api.ErrNotDir}, {move(256, "e", 256, "g"), api.ErrNotDir}, {move(256, "e", 259, "df"), api.ErrNotDir}, {move(259, "dd.", 259, "df"), api.ErrNotDir},
		{move(256, "e", 256, "d"), api.ErrNotEmpty}, {move(256, "e", 259, "dd."), api.ErrNotEmpty}, {move(259, "dd.", 256, "d"), api.ErrNotEmpty},
	} {
		g.status(c.r, c.want)
	}
	is(t, "blocks written", len(g.x.Blocks()), 0)
}

// TestP12_4RenameDeep: a directory may be moved far below others, further than a path can say; and everywhere below itself it may not.
func TestP12_4RenameDeep(t *testing.T) {
	g := groundOf(t, 40, 0)
	in := 256
	var chain []int
	for range 18 {
		in = g.made(in, "n.")[0]
		chain = append(chain, in)
	}
	top := g.made(256, "top.")[0]
	low := g.made(top, "low.")[0]
	g.ok(move(256, "top.", in, "top."))
	g.commit()
	for i, id := range append(chain, top, low) {
		g.status(move(256, "n.", id, "x"), api.ErrInside)
		if i < len(chain)-1 {
			g.status(move(id, "n.", low, "x"), api.ErrInside)
			g.status(move(id, "n.", 256, "n."), api.ErrNotEmpty)
		}
	}
	g.ok(move(in, "top.", 256, "top."))
	g.ok(move(256, "n.", low, "n."))
}
