package plan_test

import (
	"math"
	"testing"

	"annex/api"
	"annex/plan"
)

func whereIs(t *testing.T, what string, l api.Layout, b, region, place int) {
	t.Helper()
	if r, p := plan.Where(l, b); r != region || p != place {
		t.Fatalf("%s: Where(%d) = %d, %d, want %d, %d", what, b, r, p, region, place)
	}
}

func TestP6_4Example(t *testing.T) {
	l := planned(t, small)
	for _, c := range [][3]int{
		{0, 1, 0}, {1, 2, 0}, {2, 3, 0}, {28, 3, 26}, {29, 4, 0}, {53, 4, 24}, {54, 5, 0},
		{58, 6, 3}, {59, 7, 0}, {138, 7, 79}, {139, 0, 0}, {-1, 0, 0},
	} {
		whereIs(t, "the example", l, c[0], c[1], c[2])
	}
}

// sameWhere holds Where against the chapter's words.
func sameWhere(t *testing.T, what string, l api.Layout, b int) {
	t.Helper()
	region, place := whereByWords(l, b)
	whereIs(t, what, l, b, region, place)
}

func TestP6_4EachBlock(t *testing.T) {
	for _, s := range fittings(20) {
		l := planned(t, s)
		for b := -3; b < l.Total+3; b++ {
			sameWhere(t, "a layout of Plan", l, b)
		}
	}
}

func TestP6_4NoBlock(t *testing.T) {
	for _, s := range fittings(20) {
		l := planned(t, s)
		for _, b := range []int{math.MinInt, -1 << 32, -l.Total, -1, l.Total, l.Total + 1, 4096, 1 << 32, math.MaxInt} {
			whereIs(t, "no block of it", l, b, 0, 0)
		}
	}
}

// fieldsOf are all numbers of a layout, those of its shape too.
func fieldsOf(l *api.Layout) []*int {
	list := []*int{
		&l.Boot, &l.Journal, &l.JournalLen, &l.Ledger, &l.LedgerLen, &l.Bits, &l.BitsLen,
		&l.Table, &l.TableLen, &l.Data, &l.DataLen, &l.Total,
	}
	for _, n := range theNumbers() {
		list = append(list, n.of(&l.Shape))
	}
	return list
}

// TestP6_4OtherLayouts: one number of a layout is another one. (On some numbers of the shape nothing else of a layout hangs: with those it may be a layout of Plan again.)
func TestP6_4OtherLayouts(t *testing.T) {
	const own = 12 // of the layout; the shape's stand behind them
	for _, s := range fittings(10) {
		for i := range fieldsOf(&api.Layout{}) {
			for _, by := range []int{-1, 1, 1 << 32, math.MinInt} {
				l := planned(t, s)
				*fieldsOf(&l)[i] += by
				for _, b := range []int{0, 1, 2, 5, l.Total - 1, l.Total} {
					sameWhere(t, "another layout", l, b)
					if i < own {
						whereIs(t, "another layout", l, b, 0, 0)
					}
				}
			}
		}
	}
}

// TestP6_4LayoutsOfNoShape: a layout that is laid out well, of a shape that Plan does not take.
func TestP6_4LayoutsOfNoShape(t *testing.T) {
	for _, b := range []int{-1, 0, 1, math.MaxInt} {
		whereIs(t, "nothing", api.Layout{}, b, 0, 0)
		whereIs(t, "a total alone", api.Layout{Total: 10}, b, 0, 0)
	}
	l := planned(t, small)
	l.Shape.Data, l.DataLen, l.Total = 79, 79, 138
	whereIs(t, "no room", l, 5, 0, 0)
	l.Shape.Data, l.DataLen, l.Total = 80, 80, 139
	whereIs(t, "room", l, 5, 3, 3)
	l.Shape.Clients = 9
	whereIs(t, "nine clients", l, 5, 0, 0)
}
