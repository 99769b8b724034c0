package ledger_test

import (
	"testing"

	"annex/api"
)

// begun is the examples' ledger behind the first two Puts, each in a transaction of its own or both in one.
func begun(t *testing.T, apart bool) *ground {
	g := groundOf(t, 2, 2)
	g.stands(0, 0)
	is(t, "Put", g.put(0, 1, "a"), api.OK)
	is(t, "Put", g.put(0, 1, "b"), api.ErrKept)
	if apart {
		g.commit()
	}
	is(t, "Put", g.put(1, 1, "c"), api.OK)
	return g
}

// TestP13_4Examples: the chapter's, with each Put in a transaction of its own.
func TestP13_4Examples(t *testing.T) {
	g := begun(t, true)
	g.in(0, 0, 1, "a")
	g.in(1, 1, 1, "c")
	g.commit()
	is(t, "Put", g.put(0, 2, "d"), api.ErrCacheFull)
	g.has(0, 1, "a")
	g.has(0, 2, "")
	is(t, "Raise", g.raise(0, 1), api.OK)
	is(t, "Put", g.put(0, 2, "d"), api.OK)
	g.in(0, 0, 2, "d")
	g.has(0, 1, "")
	is(t, "Put", g.put(0, 1, "e"), api.ErrOld)
	is(t, "Raise", g.raise(0, 0), api.OK)
	g.stands(0, 1)
	g.commit()
	is(t, "Raise", g.raise(1, 1), api.OK)
	is(t, "Raise", g.raise(0, 2), api.OK)
	is(t, "Put", g.put(1, 2, "f"), api.OK)
	g.in(1, 1, 2, "f") // the stamps were 4 and 3
	_, code := g.mark(2)
	is(t, "Mark(2)", code, api.ErrNoClient)
	is(t, "Put", g.put(0, 3, ""), api.ErrArg)
}

// TestP13_4ExamplesInOne: all in one transaction, with equal stamps.
func TestP13_4ExamplesInOne(t *testing.T) {
	g := begun(t, false)
	is(t, "Raise", g.raise(0, 1), api.OK)
	is(t, "Put", g.put(0, 2, "d"), api.OK)
	is(t, "Raise", g.raise(1, 1), api.OK)
	is(t, "Raise", g.raise(0, 2), api.OK)
	is(t, "Put", g.put(1, 2, "f"), api.OK)
	g.in(0, 1, 2, "f")
	g.in(1, 1, 1, "c")
}

// TestP13_5Example: All behind the first two Puts.
func TestP13_5Example(t *testing.T) {
	for _, apart := range []bool{true, false} {
		g := begun(t, apart)
		list, code := g.all()
		is(t, "All", code, api.OK)
		is(t, "how many", len(list), 2)
		stamp := 2
		is(t, "the first", list[0].Client == 0 && list[0].Seq == 1 && list[0].Stamp == stamp && string(list[0].Data) == "a", true)
		if apart {
			stamp = 3
		}
		is(t, "the second", list[1].Client == 1 && list[1].Seq == 1 && list[1].Stamp == stamp && string(list[1].Data) == "c", true)
	}
}
