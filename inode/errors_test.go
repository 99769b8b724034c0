package inode_test

import (
	"bytes"
	"fmt"
	"math"
	"testing"

	"annex/api"
	"annex/device"
	"annex/inode"
	"annex/journal"
)

// call is one of the package's. With an error its other result must be zero: if not, the call answers -1.
type call func(x *journal.Tx, l api.Layout) api.Errno

func unless(wrong bool, code api.Errno) api.Errno {
	if code != api.OK && wrong {
		return -1
	}
	return code
}

func newCall(kind int) call {
	return func(x *journal.Tx, l api.Layout) api.Errno {
		y, code := inode.New(x, l, kind)
		return unless(y != api.Inode{}, code)
	}
}

func getCall(id int) call {
	return func(x *journal.Tx, l api.Layout) api.Errno {
		y, code := inode.Get(x, l, id)
		return unless(y != api.Inode{}, code)
	}
}

func putCall(y api.Inode) call {
	return func(x *journal.Tx, l api.Layout) api.Errno { return inode.Put(x, l, y) }
}

func freeCall(id int) call {
	return func(x *journal.Tx, l api.Layout) api.Errno { return inode.Free(x, l, id) }
}

func allCall(x *journal.Tx, l api.Layout) api.Errno {
	list, code := inode.All(x, l)
	return unless(len(list) > 0, code)
}

// right are calls whose arguments have no error, of the slots 0 to 2.
func right() map[string]call {
	list := map[string]call{"All": allCall}
	for s := range 3 {
		list[fmt.Sprint("New ", s)] = newCall(1 + s%2)
		list[fmt.Sprint("Get ", s)] = getCall(256 + s)
		list[fmt.Sprint("Put ", s)] = putCall(api.Inode{Id: 256 + s, Kind: 1})
		list[fmt.Sprint("Put of the other kind ", s)] = putCall(api.Inode{Id: 256 + s, Kind: 2})
		list[fmt.Sprint("Free ", s)] = freeCall(256 + s)
	}
	return list
}

// wrong are calls whose arguments have an error on their own, and that error.
func wrong() map[string]struct {
	c    call
	want api.Errno
} {
	type answer = struct {
		c    call
		want api.Errno
	}
	list := map[string]answer{
		"New of no kind": {newCall(3), api.ErrArg}, "New of 0": {newCall(0), api.ErrArg},
		"Put of no kind":     {putCall(api.Inode{Id: 256, Kind: 3}), api.ErrArg},
		"Put of a size":      {putCall(api.Inode{Id: 256, Kind: 1, Size: -1}), api.ErrArg},
		"Put of a change":    {putCall(api.Inode{Id: 256, Kind: 1, Change: -1}), api.ErrArg},
		"Put of a block":     {putCall(api.Inode{Id: 256, Kind: 1, Direct: [8]int{7: 1}}), api.ErrArg},
		"Put of an indirect": {putCall(api.Inode{Id: 255, Kind: 1, Indirect: 1}), api.ErrArg},
	}
	for _, id := range []int{math.MinInt, -1, 0, 255, 256 + 6, 511} {
		list[fmt.Sprint("Get ", id)] = answer{getCall(id), api.ErrStale}
		list[fmt.Sprint("Free ", id)] = answer{freeCall(id), api.ErrStale}
		list[fmt.Sprint("Put ", id)] = answer{putCall(api.Inode{Id: id, Kind: 1}), api.ErrStale}
		list[fmt.Sprint("Put of nothing, ", id)] = answer{putCall(api.Inode{Id: id}), api.ErrArg}
	}
	return list
}

// each asks for one answer of all calls whose arguments are right; those whose are not answer so, whatever the transaction.
func each(t *testing.T, what string, x *journal.Tx, l api.Layout, want api.Errno) {
	t.Helper()
	arguments(t, what, x, l)
	for name, c := range right() {
		if code := c(x, l); code != want {
			t.Errorf("%s: %s = %d, want %d", what, name, code, want)
		}
	}
	arguments(t, what, x, l)
}

func arguments(t *testing.T, what string, x *journal.Tx, l api.Layout) {
	t.Helper()
	for name, a := range wrong() {
		if code := a.c(x, l); code != a.want {
			t.Errorf("%s: %s = %d, want %d", what, name, code, a.want)
		}
	}
}

// tables: one in which the slots 0 to 2 are in use; one in which all are, and used up; an empty one; one of records that may not be.
func tables(t *testing.T) map[string]*ground {
	t.Helper()
	l := layoutOf(t, 6)
	used, full := make(told, 6), make(told, 6)
	for s := range 6 {
		full[s] = place{lastUse, true, sample(l, lastUse<<8|s, 1)}
		if s < 3 {
			used[s] = place{1, true, sample(l, 256+s, 1)}
		}
	}
	bent := groundOf(t, 6)
	for s := range 6 {
		bent.lay(s, noise(int64(s), 128))
	}
	bent.commit()
	return map[string]*ground{"in use": groundWith(t, l, used), "full": groundWith(t, l, full), "empty": groundOf(t, 6), "bent": bent}
}

// TestP9_2Ended: behind Commit, behind Drop, and where there is none; the arguments' errors come first.
func TestP9_2Ended(t *testing.T) {
	for name, g := range tables(t) {
		first := g.x
		g.commit()
		each(t, name+", behind Commit", first, g.l, api.ErrEnded)
		second := g.x
		second.Drop()
		each(t, name+", behind Drop", second, g.l, api.ErrEnded)
		g.begin()
		each(t, name+", Begin while another one is open", g.j.Begin(), g.l, api.ErrEnded)
		each(t, name+", none", nil, g.l, api.ErrEnded)
		g.off()
		each(t, name+", behind Commit, without power", first, g.l, api.ErrEnded)
	}
}

// TestP9_2Power: the call that meets it, and those behind it; a call with a wrong argument does not meet it.
func TestP9_2Power(t *testing.T) {
	for call, c := range right() {
		for name, g := range tables(t) {
			g.x.Write(g.l.Boot, make([]byte, 512))
			g.off()
			arguments(t, name, g.x, g.l)
			if code := c(g.x, g.l); code != api.ErrPower {
				t.Errorf("%s, without power: %s = %d", name, call, code)
			}
			each(t, name+", behind it", g.x, g.l, api.ErrEnded)
		}
	}
}

// TestP9_2OtherPlaces: a device or a journal that is not the layout's: what Read answers goes up.
func TestP9_2OtherPlaces(t *testing.T) {
	l := layoutOf(t, 6)
	for _, c := range []struct{ size, start, length int }{
		{l.Table, 0, 27},
		{l.Total, 0, l.Table + 1},
		{l.Total + 27, l.Table, 27},
	} {
		d := device.New(c.size)
		journal.Format(d, c.start, c.length)
		j, _, code := journal.Open(d, c.start, c.length)
		if code != api.OK {
			t.Fatalf("Open: %d", code)
		}
		each(t, "no place for the table", j.Begin(), l, api.ErrPlace)
	}
}

// TestP9_6TxBig: what Write answers goes up, and nothing is written; where nothing is to be written it is not asked.
func TestP9_6TxBig(t *testing.T) {
	l := layoutOf(t, 6)
	w := make(told, 6)
	for s := range 5 {
		w[s] = place{1, true, sample(l, 256+s, 1)}
	}
	g := groundWith(t, l, w)
	for i := range 24 {
		g.x.Write(l.Data+i, make([]byte, 512))
	}
	was := g.table()
	g.new(1, api.Inode{}, api.ErrTxBig)
	g.put(w[0].x, api.ErrTxBig)
	g.free(256, api.ErrTxBig)
	g.new(3, api.Inode{}, api.ErrArg)
	g.put(sample(l, 256, 2), api.ErrArg)
	g.put(sample(l, 261, 1), api.ErrStale)
	g.free(261, api.ErrStale)
	g.get(256, w[0].x, api.OK)
	g.all(w.all(), api.OK)
	if !bytes.Equal(g.table(), was) || len(g.x.Blocks()) != 24 {
		t.Errorf("with an error %v were written", g.x.Blocks())
	}
	full := groundWith(t, l, append(w[:5:5], place{1, true, sample(l, 261, 1)}))
	for i := range 24 {
		full.x.Write(l.Data+i, make([]byte, 512))
	}
	full.new(1, api.Inode{}, api.ErrInodes)

	g.x.Drop()
	g.begin()
	for i := range 23 {
		g.x.Write(l.Data+i, make([]byte, 512))
	}
	g.free(256, api.OK)
	g.new(1, api.Inode{Id: 512, Kind: 1, Change: 1}, api.OK)
	g.put(sample(l, 512, 1), api.OK)
	g.free(260, api.ErrTxBig)
}

// TestP0_1AnyLayout: of one that Plan does not give, each call ends and none panics.
func TestP0_1AnyLayout(t *testing.T) {
	g := groundOf(t, 6)
	g.new(1, api.Inode{Id: 256, Kind: 1, Change: 1}, api.OK)
	g.commit()
	odd := []int{math.MinInt, math.MinInt + 1, -1 << 32, -1, 0, 1, 255, 257, 4096, 1 << 32, math.MaxInt - 1, math.MaxInt}
	for i := range 5 {
		for _, v := range odd {
			l := g.l
			*[]*int{&l.Shape.Inodes, &l.Table, &l.Data, &l.DataLen, &l.TableLen}[i] = v
			for _, x := range []*journal.Tx{g.x, nil} {
				for _, c := range right() {
					c(x, l)
				}
				for _, a := range wrong() {
					a.c(x, l)
				}
				getCall(256+255)(x, l)
				freeCall(256+255)(x, l)
				putCall(api.Inode{Id: 256, Kind: 1, Indirect: math.MaxInt})(x, l)
				putCall(api.Inode{Id: 256, Kind: 1, Indirect: math.MinInt})(x, l)
			}
			g.x.Drop()
			g.begin()
		}
	}
	for _, c := range right() {
		c(g.x, api.Layout{})
	}
	for _, a := range wrong() {
		a.c(g.x, api.Layout{})
	}
}
