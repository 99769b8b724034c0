package ledger_test

import (
	"bytes"
	"encoding/binary"
	"fmt"
	"math"
	"slices"
	"testing"

	"annex/api"
	"annex/device"
	"annex/journal"
	"annex/ledger"
	"annex/sum"
)

// call is one of the package's. With an error its other results must be zero: if not, the call answers -1.
type call func(x *journal.Tx, l api.Layout) api.Errno

func unless(wrong bool, code api.Errno) api.Errno {
	if code != api.OK && wrong {
		return -1
	}
	return code
}

func markCall(c int) call {
	return func(x *journal.Tx, l api.Layout) api.Errno {
		m, code := ledger.Mark(x, l, c)
		return unless(m != 0, code)
	}
}

func raiseCall(c, ack int) call {
	return func(x *journal.Tx, l api.Layout) api.Errno { return ledger.Raise(x, l, c, ack) }
}

func findCall(c, seq int) call {
	return func(x *journal.Tx, l api.Layout) api.Errno {
		b, ok, code := ledger.Find(x, l, c, seq)
		return unless(len(b) > 0 || ok, code)
	}
}

func putCall(c, seq, length int) call {
	return func(x *journal.Tx, l api.Layout) api.Errno { return ledger.Put(x, l, c, seq, make([]byte, length)) }
}

func allCall(x *journal.Tx, l api.Layout) api.Errno {
	list, code := ledger.All(x, l)
	return unless(len(list) > 0, code)
}

// slotCalls look at the slots, of right arguments; Put looks at the watermarks too.
func slotCalls() map[string]call {
	list := map[string]call{"All": allCall}
	for c := range 3 {
		list[fmt.Sprint("Find ", c)] = findCall(c, 1+c)
	}
	return list
}

// markCalls look at the watermarks first.
func markCalls() map[string]call {
	list := map[string]call{"Format": ledger.Format}
	for c := range 3 {
		list[fmt.Sprint("Mark ", c)] = markCall(c)
		list[fmt.Sprint("Raise up ", c)] = raiseCall(c, last)
		list[fmt.Sprint("Raise to 0 ", c)] = raiseCall(c, 0)
		list[fmt.Sprint("Put ", c)] = putCall(c, 1+c, 1)
		list[fmt.Sprint("Put of the last seq ", c)] = putCall(c, last, 1400)
	}
	return list
}

type answer struct {
	c    call
	want api.Errno
}

// wrong are calls whose arguments have an error on their own, and that error.
func wrong() map[string]answer {
	list := map[string]answer{
		"Put of nothing":  {putCall(0, 1, 0), api.ErrArg},
		"Put of too much": {putCall(2, 1, 1401), api.ErrArg},
	}
	for _, c := range notClients(3) {
		list[fmt.Sprint("Mark ", c)] = answer{markCall(c), api.ErrNoClient}
		list[fmt.Sprint("Raise ", c)] = answer{raiseCall(c, 1), api.ErrNoClient}
		list[fmt.Sprint("Raise, all wrong ", c)] = answer{raiseCall(c, -1), api.ErrNoClient}
		list[fmt.Sprint("Find ", c)] = answer{findCall(c, 1), api.ErrNoClient}
		list[fmt.Sprint("Find, all wrong ", c)] = answer{findCall(c, 0), api.ErrNoClient}
		list[fmt.Sprint("Put ", c)] = answer{putCall(c, 1, 1), api.ErrNoClient}
		list[fmt.Sprint("Put, all wrong ", c)] = answer{putCall(c, 0, 0), api.ErrNoClient}
	}
	for _, seq := range notSeqs {
		list[fmt.Sprint("Find of the seq ", seq)] = answer{findCall(1, seq), api.ErrArg}
		list[fmt.Sprint("Put of the seq ", seq)] = answer{putCall(1, seq, 1), api.ErrArg}
		if seq != 0 {
			list[fmt.Sprint("Raise to ", seq)] = answer{raiseCall(1, seq), api.ErrArg}
		}
	}
	return list
}

// each asks for one answer of all calls whose arguments are right; those whose are not answer so, whatever the transaction.
func each(t *testing.T, what string, x *journal.Tx, l api.Layout, want api.Errno) {
	t.Helper()
	arguments(t, what, x, l)
	for _, calls := range []map[string]call{slotCalls(), markCalls()} {
		answered(t, what, calls, x, l, want)
	}
	arguments(t, what, x, l)
}

func answered(t *testing.T, what string, calls map[string]call, x *journal.Tx, l api.Layout, want api.Errno) {
	t.Helper()
	for name, c := range calls {
		if code := c(x, l); code != want {
			t.Errorf("%s: %s = %d, want %d", what, name, code, want)
		}
	}
}

func arguments(t *testing.T, what string, x *journal.Tx, l api.Layout) {
	t.Helper()
	for name, a := range wrong() {
		if code := a.c(x, l); code != a.want {
			t.Errorf("%s: %s = %d, want %d", what, name, code, a.want)
		}
	}
}

// ledgers of three clients: an empty one, a full one, one whose watermarks are all at their last, one in which all is bent.
func ledgers(t *testing.T) map[string]*ground {
	t.Helper()
	l := layoutOf(t, 3, 3)
	full := groundOf(t, 3, 3)
	high := groundOf(t, 3, 3)
	for c := range 3 {
		full.put(c, 1+c, "kept")
		high.raise(c, last)
	}
	full.commit()
	high.commit()
	bent := groundWith(t, l, bytes.Repeat([]byte{0xff}, 512*l.LedgerLen))
	return map[string]*ground{"empty": groundOf(t, 3, 3), "full": full, "high": high, "bent": bent}
}

// TestP13_4Ended: behind Commit, behind Drop, and where there is none; the arguments' errors come first.
func TestP13_4Ended(t *testing.T) {
	for name, g := range ledgers(t) {
		first := g.x
		g.commit()
		each(t, name+", behind Commit", first, g.l, api.ErrEnded)
		second := g.x
		g.drop()
		each(t, name+", behind Drop", second, g.l, api.ErrEnded)
		each(t, name+", Begin while another one is open", g.j.Begin(), g.l, api.ErrEnded)
		each(t, name+", none", nil, g.l, api.ErrEnded)
		g.same("a call that is too late")
		g.off()
		each(t, name+", behind Commit, without power", first, g.l, api.ErrEnded)
	}
}

// TestP13_4Power: the call that meets it, and those behind it; a call with a wrong argument does not meet it.
func TestP13_4Power(t *testing.T) {
	calls := markCalls()
	for name, c := range slotCalls() {
		calls[name] = c
	}
	for call, c := range calls {
		for name, g := range ledgers(t) {
			g.off()
			arguments(t, name, g.x, g.l)
			if code := c(g.x, g.l); code != api.ErrPower {
				t.Errorf("%s, without power: %s = %d", name, call, code)
			}
			each(t, name+", behind it", g.x, g.l, api.ErrEnded)
		}
	}
}

// elsewhere is a transaction over a journal at another place than the layout's.
func elsewhere(t *testing.T, size, start, length int) *journal.Tx {
	t.Helper()
	d := device.New(size)
	journal.Format(d, start, length)
	j, _, code := journal.Open(d, start, length)
	is(t, "Open", code, api.OK)
	return j.Begin()
}

// TestP13_4OtherPlaces: where the journal has the watermarks' block or a slot's: what Read answers goes up, as it comes.
func TestP13_4OtherPlaces(t *testing.T) {
	l := layoutOf(t, 3, 3)
	none := elsewhere(t, l.Ledger, 0, 27)
	each(t, "no ledger", none, l, api.ErrPlace)

	marks := elsewhere(t, l.Total, l.Ledger-27+1, 27)
	arguments(t, "no watermarks", marks, l)
	answered(t, "no watermarks", markCalls(), marks, l, api.ErrPlace)
	answered(t, "no watermarks", slotCalls(), marks, l, api.OK)

	slots := elsewhere(t, l.Total, l.Ledger+1, 27)
	arguments(t, "no slots", slots, l)
	answered(t, "no slots", slotCalls(), slots, l, api.ErrPlace)
	is(t, "Put", putCall(1, 1, 1)(slots, l), api.ErrPlace)
	is(t, "Mark", markCall(1)(slots, l), api.OK)
	is(t, "Raise", raiseCall(1, 3)(slots, l), api.OK)
	is(t, "Put of an old one", putCall(1, 3, 1)(slots, l), api.ErrOld)
	is(t, "Format", ledger.Format(slots, l), api.OK)
}

// TestP13_3OtherPlaces: what is found ahead of the place that can't be read is told.
func TestP13_3OtherPlaces(t *testing.T) {
	l := layoutOf(t, 3, 3)
	x := elsewhere(t, l.Total, l.Ledger+1+3, 27) // from the slot 1 on
	block := make([]byte, 512)
	binary.Encode(block, binary.BigEndian, head{1, 3, 7, 9})
	copy(block[24:], "abc")
	is(t, "Write", x.Write(l.Ledger+1, block), api.OK)
	b, ok, code := ledger.Find(x, l, 1, 7)
	is(t, "Find", string(b), "abc")
	is(t, "Find", ok, true)
	is(t, "Find", code, api.OK)
	is(t, "Find of another", findCall(1, 8)(x, l), api.ErrPlace)
	is(t, "All", allCall(x, l), api.ErrPlace)
	is(t, "Put", putCall(1, 8, 1)(x, l), api.ErrPlace)

	x = elsewhere(t, l.Total, l.Ledger+2, 27) // from the second block of the slot 0 on
	for _, length := range []uint32{488, 489} {
		binary.Encode(block, binary.BigEndian, head{1, length, 7, 9})
		is(t, "Write", x.Write(l.Ledger+1, block), api.OK)
		b, ok, code := ledger.Find(x, l, 1, 7)
		if length == 488 {
			is(t, "Find", string(b), string(block[24:]))
			is(t, "Find", ok, true)
			is(t, "Find", code, api.OK)
		} else {
			is(t, "Find", len(b), 0)
			is(t, "Find", ok, false)
			is(t, "Find", code, api.ErrPlace)
		}
	}
}

// TestP13_5OtherPlaces: a reply that can't be read whole is no reply, and nothing else is told.
func TestP13_5OtherPlaces(t *testing.T) {
	l := layoutOf(t, 3, 2)
	x := elsewhere(t, l.Total, l.Ledger+1+3+2, 27) // from the last block of the slot 1 on
	for i, length := range []uint32{400, 1000, 1001} {
		block := make([]byte, 512)
		binary.Encode(block, binary.BigEndian, head{1, length, 7, 9})
		is(t, "Write", x.Write(l.Ledger+1+3*min(i, 1), block), api.OK)
		list, code := ledger.All(x, l)
		if length <= 1000 {
			is(t, "All", code, api.OK)
			is(t, "how many", len(list), i+1)
		} else {
			is(t, "All", code, api.ErrPlace)
			is(t, "how many", len(list), 0)
		}
	}
}

// TestP13_4TxBig: what Write answers goes up; where nothing is to be written it is not asked.
func TestP13_4TxBig(t *testing.T) {
	for many := 20; many <= 24; many++ {
		g := begun(t, true)
		is(t, "Raise", g.raise(1, 1), api.OK)
		g.commit()
		g.fill(many)
		want := api.OK
		if many+3 > 24 {
			want = api.ErrTxBig
		}
		is(t, "Put of none", ledger.Put(g.x, g.l, 0, 1, []byte("x")), api.ErrKept)
		is(t, "Put of an old one", ledger.Put(g.x, g.l, 1, 1, []byte("x")), api.ErrOld)
		is(t, "Put", ledger.Put(g.x, g.l, 0, 2, []byte("new")), want)
		g.drop()
		g.fill(many)
		want = api.OK
		if many == 24 {
			want = api.ErrTxBig
		}
		is(t, "Raise to where it is", ledger.Raise(g.x, g.l, 1, 1), api.OK)
		is(t, "Raise", ledger.Raise(g.x, g.l, 0, 1), want)
		is(t, "Format", ledger.Format(g.x, g.l), want)
		g.drop()
		g.fill(many)
		g.has(0, 1, "a")
		g.stands(1, 1)
		g.listed()
		is(t, "how many blocks are written", len(g.x.Blocks()), many)
	}
}

// TestP13_4TxBigTakenBack: behind such an error a savepoint gives back what was there.
func TestP13_4TxBigTakenBack(t *testing.T) {
	for many := 22; many <= 24; many++ {
		g := begun(t, true)
		g.commit()
		g.fill(many)
		mark, _ := g.x.Save()
		is(t, "Raise", ledger.Raise(g.x, g.l, 0, 1) == api.OK, many < 24)
		is(t, "Put", ledger.Put(g.x, g.l, 0, 2, []byte(text(1400))) == api.OK, false)
		is(t, "Back", g.x.Back(mark), api.OK)
		g.same("Back")
	}
}

// TestP13_4CacheFullAheadOfTxBig: a Put that finds no room does not try to write.
func TestP13_4CacheFullAheadOfTxBig(t *testing.T) {
	g := begun(t, true)
	g.commit()
	g.fill(24)
	is(t, "Put", g.put(0, 2, "x"), api.ErrCacheFull)
	is(t, "Put", g.put(1, 1, "x"), api.ErrKept)
	is(t, "Raise", g.raise(1, 0), api.OK)
}

// TestP13_4LastStamps: a journal made by hand, at its last numbers. The stamp is the transaction's number, also that of one that can't be committed: which no slot may have.
func TestP13_4LastStamps(t *testing.T) {
	for _, seq := range []int{last - 1, last, last + 1} {
		g := groundOf(t, 2, 2)
		is(t, "Check", g.j.Check(), api.OK)
		h := make([]byte, 512)
		copy(h, "ANXH")
		binary.BigEndian.PutUint64(h[8:], uint64(seq))
		binary.BigEndian.PutUint64(h[20:], sum.Sum(h[:20]))
		g.d.Write(g.l.Journal, h)
		g.d.Flush()
		g.open()
		is(t, "Put", g.put(1, 5, "x"), api.OK)
		_, ok, code := g.find(1, 5)
		is(t, "whether it is found", ok, seq <= last)
		is(t, "Put again", g.put(1, 5, "x") == api.ErrKept, seq <= last)
		if seq > last {
			is(t, "Find", code, api.ErrLedger)
			is(t, "Commit", g.x.Commit(), api.ErrSeqs)
		}
	}
}

// TestP13_8NoSavepoint: the calls make none, and take none away.
func TestP13_8NoSavepoint(t *testing.T) {
	g := groundOf(t, 3, 3)
	for mark := 1; mark < 8; mark += 2 {
		first, _ := g.x.Save()
		for _, calls := range []map[string]call{slotCalls(), markCalls()} {
			for _, c := range calls {
				c(g.x, g.l)
			}
		}
		second, _ := g.x.Save()
		is(t, "the mark", first, mark)
		is(t, "the next mark", second, mark+1)
	}
	is(t, "Back", g.x.Back(1), api.OK)
	g.same("Back")
}

// TestP13_8Blocks: how many blocks each call writes, and which.
func TestP13_8Blocks(t *testing.T) {
	g := groundOf(t, 3, 3)
	wrote := func(what string, from, many int) {
		t.Helper()
		var want []int
		for n := range many {
			want = append(want, g.l.Ledger+from+n)
		}
		is(t, what, fmt.Sprint(g.x.Blocks()), fmt.Sprint(slices.Clip(want)))
		g.commit()
	}
	for i := range 3 {
		g.put(2-i, 5, text(1+600*i))
		wrote("Put", 1+3*i, 3)
	}
	g.raise(1, 5)
	wrote("Raise", 0, 1)
	g.raise(1, 5)
	wrote("Raise to where it is", 0, 0)
	g.raise(1, 4)
	wrote("Raise to below", 0, 0)
	g.put(1, 6, "x")
	wrote("Put in the place of another", 4, 3)
	g.put(1, 7, "x")
	wrote("Put where no room is", 0, 0)
	for c := range 3 {
		g.find(c, 5)
		g.find(c, 6)
		g.mark(c)
	}
	g.all()
	wrote("Find, Mark and All", 0, 0)
	g.format()
	wrote("Format", 0, 1)
}

// TestP0_1AnyLayout: of one that Plan does not give, each call ends and none panics.
func TestP0_1AnyLayout(t *testing.T) {
	odd := []int{math.MinInt, math.MinInt + 1, -1 << 32, -1, 0, 1, 2, 3, 8, 9, 64, 65, 1000, 4096, 1 << 32, math.MaxInt / 3, math.MaxInt - 1, math.MaxInt}
	for _, g := range ledgers(t) {
		layouts := []api.Layout{{}, {Shape: g.l.Shape}}
		for i := range 4 {
			for _, v := range odd {
				for _, w := range odd {
					l := g.l
					l.Shape.Cache = w
					*[]*int{&l.Shape.Clients, &l.Shape.Cache, &l.Ledger, &l.LedgerLen}[i] = v
					layouts = append(layouts, l)
				}
			}
		}
		for _, l := range layouts {
			for _, x := range []*journal.Tx{g.x, nil} {
				for _, c := range []int{0, 7, 8, 63, 64, 1 << 32, math.MaxInt - 1} {
					markCall(c)(x, l)
					raiseCall(c, 9)(x, l)
					findCall(c, 1)(x, l)
					putCall(c, last, 1)(x, l)
				}
				allCall(x, l)
				ledger.Format(x, l)
			}
			g.drop()
		}
	}
}
