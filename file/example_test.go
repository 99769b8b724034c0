package file_test

import (
	"slices"
	"testing"

	"annex/api"
	"annex/file"
	"annex/space"
)

// TestP10_2Examples: the chapter's table, written out.
func TestP10_2Examples(t *testing.T) {
	g := groundOf(t, 60)
	d, x := g.l.Data, first
	x1 := g.wrote(x, 0, "abc")
	want := api.Inode{Id: x.Id, Kind: x.Kind, Change: x.Change, Size: 3, Direct: [8]int{d}}
	is(t, "x1", x1, want)
	g.reads(x1, 1, 9, "bc")
	g.reads(x1, 3, 1, "")
	_, code := g.read(x1, -1, 1)
	is(t, "Read(x1, -1, 1)", code, api.ErrArg)
	x2 := g.wrote(x1, 1024, "z")
	want.Size, want.Direct[2] = 1025, d+1
	is(t, "x2", x2, want)
	g.reads(x2, 2, 3, "c\x00\x00")
	x3 := g.wrote(x2, 4096, "i")
	want.Size, want.Indirect = 4097, d+2
	is(t, "x3", x3, want)
	block, _ := g.x.Read(d + 2)
	is(t, "the first number", string(block), string([]byte{0, 0, 0, byte(d + 3)})+string(make([]byte, 508)))
	list, code := file.Blocks(g.x, g.l, x3)
	is(t, "Blocks(x3)", code, api.OK)
	is(t, "Blocks(x3)", slices.Equal(list, []int{d, d + 1, d + 2, d + 3}), true)
	x4 := g.cutTo(x3, 1024)
	want.Size, want.Indirect, want.Direct[2] = 1024, 0, 0
	is(t, "x4", x4, want)
	for i := range 4 {
		used, _ := space.Has(g.x, g.l, d+i)
		is(t, "in use", used, i == 0)
	}
	x5 := g.wrote(g.cutTo(x4, 2), 5, "q")
	g.reads(x5, 0, 6, "ab\x00\x00\x00q")
}

func TestP10_2ExamplesOfErrors(t *testing.T) {
	g := groundOf(t, 60)
	x := first
	y, code := g.write(x, 69632, []byte("a"))
	is(t, "Write(x, 69632, a)", y, api.Inode{})
	is(t, "Write(x, 69632, a)", code, api.ErrFBig)
	is(t, "Write(x, 69631, a)", g.wrote(x, 69631, "a").Size, 69632)
	g.x.Drop()

	g = groundOf(t, 60)
	x1 := g.wrote(x, 0, "abc")
	_, code = g.cut(x1, 4)
	is(t, "Cut(x1, 4)", code, api.ErrArg)
	is(t, "Cut(x1, 3)", g.cutTo(x1, 3), x1)
	bent := x
	bent.Direct[0] = g.l.Data - 1
	_, code = g.read(bent, 0, 1)
	is(t, "Read with Direct[0] D - 1", code, api.ErrBent)
	bent = x
	bent.Size = -1
	_, code = g.read(bent, 0, 1)
	is(t, "Read with Size -1", code, api.ErrBent)
}

func is[V comparable](t *testing.T, what string, got, want V) {
	t.Helper()
	if got != want {
		t.Errorf("%s: %+v, want %+v", what, got, want)
	}
}

func (g *ground) reads(x api.Inode, off, n int, want string) {
	g.t.Helper()
	if got, code := g.read(x, off, n); string(got) != want || code != api.OK {
		g.t.Fatalf("Read(%+v, %d, %d) = %q, %d, want %q", x, off, n, got, code, want)
	}
}
