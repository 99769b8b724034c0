package dir_test

import (
	"fmt"
	"math"
	"testing"

	"annex/api"
	"annex/device"
	"annex/dir"
	"annex/journal"
)

// call is one of the package's. With an error its other results must be zero: if not, the call answers -1.
type call func(t *journal.Tx, l api.Layout) api.Errno

func unless(wrong bool, code api.Errno) api.Errno {
	if code != api.OK && wrong {
		return -1
	}
	return code
}

func findCall(x api.Inode, name string) call {
	return func(t *journal.Tx, l api.Layout) api.Errno {
		id, code := dir.Find(t, l, x, name)
		return unless(id != 0, code)
	}
}

func addCall(x api.Inode, name string, id int) call {
	return func(t *journal.Tx, l api.Layout) api.Errno {
		y, code := dir.Add(t, l, x, name, id)
		return unless(y != api.Inode{}, code)
	}
}

func removeCall(x api.Inode, name string) call {
	return func(t *journal.Tx, l api.Layout) api.Errno {
		y, id, code := dir.Remove(t, l, x, name)
		return unless(y != api.Inode{} || id != 0, code)
	}
}

func listCall(x api.Inode) call {
	return func(t *journal.Tx, l api.Layout) api.Errno {
		list, code := dir.List(t, l, x)
		return unless(len(list) > 0, code)
	}
}

// asking are calls that ask the transaction for something; x has the name "a", and is no file.
func asking(x api.Inode) map[string]call {
	return map[string]call{
		"Find": findCall(x, "a"), "Find of no such name": findCall(x, "z"), "List": listCall(x),
		"Add": addCall(x, "z", 5), "Add of one that is there": addCall(x, "a", 5), "Add to an empty one": addCall(first, "z", 5),
		"Remove": removeCall(x, "a"), "Remove of no such name": removeCall(x, "z"),
	}
}

// answer is a call, and what it answers whatever the transaction is.
type answer struct {
	c    call
	want api.Errno
}

// spoilings are what is wrong with a call, in the order of the errors.
const (
	wrongKind = 1 << iota
	wrongName
	wrongId
	wrongSize
	wrongNumber
)

// judged are calls that do not come to the transaction: each way to spoil one, and all of these together. The first of them is the answer.
func judged(l api.Layout, x api.Inode) map[string]answer {
	all := map[string]answer{"List of an empty one": {listCall(first), api.OK}, "Find in an empty one": {findCall(first, "a"), api.ErrNoName}, "Remove from an empty one": {removeCall(first, "a"), api.ErrNoName}}
	for wrong := 1; wrong < 2*wrongNumber; wrong++ {
		y, n, i := x, "a", 5
		if wrong&wrongKind != 0 {
			y.Kind = []int{1, 0, 3, -2}[wrong%4]
		}
		if wrong&wrongName != 0 {
			n = noNames[wrong%len(noNames)]
		}
		if wrong&wrongId != 0 {
			i = []int{0, -1, 1 << 49}[wrong%3]
		}
		if wrong&wrongSize != 0 {
			y.Size = []int{-32, 33, 8224}[wrong%3]
		}
		if wrong&wrongNumber != 0 {
			y.Direct[wrong%8] = []int{-1, 1, l.Data - 1, l.Data + l.DataLen}[wrong%4]
		}
		all[fmt.Sprint("Add ", wrong)] = answer{addCall(y, n, i), worst(wrong)}
		if wrong&^wrongId != 0 {
			all[fmt.Sprint("Find ", wrong)] = answer{findCall(y, n), worst(wrong &^ wrongId)}
			all[fmt.Sprint("Remove ", wrong)] = answer{removeCall(y, n), worst(wrong &^ wrongId)}
		}
		if wrong&^(wrongId|wrongName) != 0 {
			all[fmt.Sprint("List ", wrong)] = answer{listCall(y), worst(wrong &^ (wrongId | wrongName))}
		}
	}
	return all
}

func worst(wrong int) api.Errno {
	for i, code := range []api.Errno{api.ErrNoList, api.ErrName, api.ErrArg, api.ErrDirBent, api.ErrBent} {
		if wrong>>i&1 == 1 {
			return code
		}
	}
	return api.OK
}

func always(t *testing.T, what string, x *journal.Tx, l api.Layout, y api.Inode) {
	t.Helper()
	for name, a := range judged(l, y) {
		if code := a.c(x, l); code != a.want {
			t.Errorf("%s: %s = %d, want %d", what, name, code, a.want)
		}
	}
}

// each asks for one answer of all calls that ask the transaction; the others answer what they always do.
func each(t *testing.T, what string, x *journal.Tx, l api.Layout, y api.Inode, want api.Errno) {
	t.Helper()
	always(t, what, x, l, y)
	for name, c := range asking(y) {
		if code := c(x, l); code != want {
			t.Errorf("%s: %s = %d, want %d", what, name, code, want)
		}
	}
	always(t, what, x, l, y)
}

// TestP11_1Order: the errors' order, of calls that write nothing.
func TestP11_1Order(t *testing.T) {
	g := groundOf(t, 16)
	x := g.added(first, "a", "b")
	g.commit()
	always(t, "open", g.x, g.l, x)
	is(t, "blocks written", len(g.x.Blocks()), 0)
	bad := g.wrote(x, 64, make([]byte, 32))
	for name, c := range asking(bad) {
		if name == "Add to an empty one" {
			continue
		}
		if code := c(g.x, g.l); code != api.ErrDirBent {
			t.Errorf("an entry of zeros: %s = %d", name, code)
		}
	}
	always(t, "an entry of zeros", g.x, g.l, bad)
}

// TestP11_1Ended: behind Commit, behind Drop, and where there is none.
func TestP11_1Ended(t *testing.T) {
	g := groundOf(t, 16)
	x := g.added(first, "a", "b")
	old := g.x
	g.commit()
	each(t, "behind Commit", old, g.l, x, api.ErrEnded)
	old = g.x
	old.Drop()
	each(t, "behind Drop", old, g.l, x, api.ErrEnded)
	g.side.x = g.j.Begin()
	each(t, "Begin while another one is open", g.j.Begin(), g.l, x, api.ErrEnded)
	each(t, "none", nil, g.l, x, api.ErrEnded)
	g.off()
	each(t, "behind Drop, without power", old, g.l, x, api.ErrEnded)
}

// TestP11_1Power: the call that meets it, and those behind it; a call that does not come to the transaction does not meet it.
func TestP11_1Power(t *testing.T) {
	for name := range asking(first) {
		g := groundOf(t, 16)
		x := g.added(first, "a", "b")
		g.commit()
		g.off()
		always(t, name, g.x, g.l, x)
		if code := asking(x)[name](g.x, g.l); code != api.ErrPower {
			t.Errorf("without power: %s = %d", name, code)
		}
		each(t, "behind "+name, g.x, g.l, x, api.ErrEnded)
	}
}

// TestP11_1OtherPlaces: a device that does not have the blocks: what the transaction answers goes up.
func TestP11_1OtherPlaces(t *testing.T) {
	l := layoutOf(t, 16)
	d := device.New(l.Bits)
	journal.Format(d, l.Journal, l.JournalLen)
	j, _, code := journal.Open(d, l.Journal, l.JournalLen)
	is(t, "Open", code, api.OK)
	x := first
	x.Size, x.Direct[0] = 64, l.Data
	tx := j.Begin()
	each(t, "no place", tx, l, x, api.ErrPlace)
	is(t, "blocks written", len(tx.Blocks()), 0)
}

// TestP11_5NoSavepoint: the calls make none, and take none away.
func TestP11_5NoSavepoint(t *testing.T) {
	g := groundOf(t, 16)
	x, code := dir.Add(g.x, g.l, first, "a", 5)
	is(t, "Add", code, api.OK)
	for mark := 1; mark < 8; mark += 2 {
		one, _ := g.x.Save()
		for _, c := range asking(x) {
			c(g.x, g.l)
		}
		y, _ := dir.Add(g.x, g.l, x, "b", 5)
		dir.Remove(g.x, g.l, y, "a")
		two, _ := g.x.Save()
		if one != mark || two != mark+1 {
			t.Errorf("the marks %d and %d, want %d and the next one", one, two, mark)
		}
		is(t, "Back", g.x.Back(one), api.OK)
		is(t, "Back", g.x.Back(1), api.OK)
	}
}

// TestP0_1AnyLayout: of one that Plan does not give, each call ends and none panics.
func TestP0_1AnyLayout(t *testing.T) {
	g := groundOf(t, 24)
	y, _ := g.full(first, 150)
	odd := []int{math.MinInt, math.MinInt + 1, -1 << 32, -1, 0, 1, 255, 4096, 1 << 32, math.MaxInt - 1, math.MaxInt}
	for i := range 8 {
		for _, v := range odd {
			l := g.l
			*[]*int{&l.Shape.Inodes, &l.Table, &l.Data, &l.DataLen, &l.TableLen, &l.Bits, &l.BitsLen, &l.Journal}[i] = v
			for _, b := range append(odd, y.Direct[0]) {
				x := y
				x.Direct[0], x.Indirect = b, b
				anyCalls(g.x, l, x)
				anyCalls(nil, l, x)
				g.drop()
			}
			anyCalls(g.x, l, y)
			g.drop()
		}
	}
	anyCalls(g.x, api.Layout{}, y)
	g.drop()
	anyCalls(g.x, api.Layout{DataLen: math.MaxInt}, y)
}

func anyCalls(x *journal.Tx, l api.Layout, y api.Inode) {
	for _, c := range asking(y) {
		c(x, l)
	}
	removeCall(y, "0-")(x, l)
	removeCall(y, manyNames(150)[149])(x, l)
}

// TestP11_3Order: each error of the last ones is told only where the ones ahead do not hold.
func TestP11_3Order(t *testing.T) {
	g := groundOf(t, 16)
	x := g.added(first, "a", "b")
	x.Id += 256 // file.Write and file.Cut have an error
	g.commit()
	for what, a := range map[string]answer{
		"Add":    {addCall(x, "c", 5), api.ErrStale},
		"Remove": {removeCall(x, "a"), api.ErrStale}, "Remove of the last one": {removeCall(x, "b"), api.ErrStale},
		"Add of one that is there": {addCall(x, "a", 5), api.ErrTwice}, "Remove of none": {removeCall(x, "c"), api.ErrNoName},
		"Add without an id": {addCall(x, "a", 0), api.ErrArg}, "Add without a name": {addCall(x, "", 0), api.ErrName},
	} {
		mark, _ := g.x.Save()
		is(t, what, a.c(g.x, g.l), a.want)
		g.x.Back(mark)
	}
	is(t, "Find", findCall(x, "a")(g.x, g.l), api.OK)
	is(t, "List", listCall(x)(g.x, g.l), api.OK)
}
