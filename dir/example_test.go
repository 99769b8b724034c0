package dir_test

import (
	"slices"
	"strings"
	"testing"

	"annex/api"
	"annex/dir"
	"annex/file"
	"annex/inode"
)

// TestP11_2Examples: the chapter's table, each answer written out.
func TestP11_2Examples(t *testing.T) {
	g := groundOf(t, 24)
	x := first
	find := func(name string, want int, code api.Errno) {
		t.Helper()
		if got, e := dir.Find(g.x, g.l, x, name); got != want || e != code {
			t.Errorf("Find(%q) = %d, %d, want %d, %d", name, got, e, want, code)
		}
	}
	add := func(name string, id, size int, code api.Errno) {
		t.Helper()
		y, e := dir.Add(g.x, g.l, x, name, id)
		if e != code || y.Size != size {
			t.Fatalf("Add(%q, %d) = Size %d, %d, want %d, %d", name, id, y.Size, e, size, code)
		}
		if code == api.OK {
			x = y
		}
	}
	remove := func(name string, id, size int, code api.Errno) {
		t.Helper()
		y, got, e := dir.Remove(g.x, g.l, x, name)
		if e != code || got != id || y.Size != size {
			t.Fatalf("Remove(%q) = Size %d, %d, %d, want %d, %d, %d", name, y.Size, got, e, size, id, code)
		}
		if code == api.OK {
			x = y
		}
	}
	list := func(want ...api.Entry) {
		t.Helper()
		if got, e := dir.List(g.x, g.l, x); !slices.Equal(got, want) || e != api.OK {
			t.Errorf("List = %v, %d, want %v", got, e, want)
		}
	}
	holds := func(want string) {
		t.Helper()
		if got, e := file.Read(g.x, g.l, x, 0, 9999); string(got) != want || e != api.OK {
			t.Errorf("the contents are %q, %d, want %q", got, e, want)
		}
	}
	find("a", 0, api.ErrNoName)
	remove("a", 0, 0, api.ErrNoName)
	list()
	add("b", 513, 32, api.OK)
	holds("\x00\x00\x00\x00\x00\x00\x02\x01\x01\x62" + strings.Repeat("\x00", 22))
	add("b", 7, 0, api.ErrTwice)
	add("", 7, 0, api.ErrName)
	add("a/", 7, 0, api.ErrName)
	add("c", 0, 0, api.ErrArg)
	add("c", 514, 64, api.OK)
	add("a", 515, 96, api.OK)
	list(api.Entry{Name: "a", Id: 515}, api.Entry{Name: "b", Id: 513}, api.Entry{Name: "c", Id: 514})
	a, c := "\x00\x00\x00\x00\x00\x00\x02\x03\x01a"+strings.Repeat("\x00", 22), "\x00\x00\x00\x00\x00\x00\x02\x02\x01c"+strings.Repeat("\x00", 22)
	remove("b", 513, 64, api.OK)
	holds(a + c)
	remove("c", 514, 32, api.OK)
	find("a", 515, api.OK)
	holds(a)
	is(t, "the inode", x, api.Inode{Id: 256, Kind: 2, Size: 32, Change: 7, Direct: [8]int{g.l.Data}})
	record, _ := inode.Get(g.x, g.l, 256)
	is(t, "its record", record, x)
}

func TestP11_4ExamplesOfErrors(t *testing.T) {
	g := groundOf(t, 24)
	_, one := dir.Find(g.x, g.l, third, "a")
	_, two := dir.Add(g.x, g.l, third, "a", 9)
	_, _, three := dir.Remove(g.x, g.l, third, "a")
	_, four := dir.List(g.x, g.l, third)
	is(t, "of a file", [4]api.Errno{one, two, three, four}, [4]api.Errno{api.ErrNoList, api.ErrNoList, api.ErrNoList, api.ErrNoList})
	for _, n := range []int{33, 32} {
		x := g.wrote(first, 0, make([]byte, n))
		list, code := dir.List(g.x, g.l, x)
		is(t, "List", code, api.ErrDirBent)
		is(t, "entries", len(list), 0)
	}
}
