package tree_test

import (
	"math"
	"testing"

	"annex/api"
	"annex/journal"
	"annex/tree"
)

// TestP0_1AnyLayout: of one that Plan does not give, each call ends and none panics.
func TestP0_1AnyLayout(t *testing.T) {
	g := yard(t)
	odd := []int{math.MinInt, math.MinInt + 1, -1 << 32, -1, 0, 1, 2, 3, 255, 4096, 1 << 32, math.MaxInt - 1, math.MaxInt}
	for i := range 10 {
		for _, v := range odd {
			l := g.l
			*[]*int{&l.Shape.Inodes, &l.Shape.Quota, &l.Table, &l.Data, &l.DataLen, &l.TableLen, &l.Bits, &l.BitsLen, &l.Journal, &l.Shape.Data}[i] = v
			anyCalls(g.x, l)
			anyCalls(nil, l)
			g.drop()
		}
	}
	for _, l := range []api.Layout{{}, {DataLen: math.MaxInt}, {DataLen: math.MaxInt, Shape: api.Shape{Inodes: math.MaxInt, Quota: math.MaxInt}}} {
		anyCalls(g.x, l)
		g.drop()
	}
	for table := range g.l.Total { // the table over other regions, and the data blocks over the table
		l := g.l
		l.Table = table
		anyCalls(g.x, l)
		g.drop()
		l = g.l
		l.Data = table
		anyCalls(g.x, l)
		g.drop()
	}
}

func anyCalls(x *journal.Tx, l api.Layout) {
	all := good()
	for _, c := range refused {
		all = append(all, c.r)
	}
	for _, r := range append(all, move(256, "d", 256, "x"), move(256, "x", 263, "d"), move(256, "g", 256, "f"), op(api.Remove, 256, "f"), list(259, "", 16)) {
		r.Seq = 1
		tree.Do(x, l, r)
	}
	tree.Usage(x, l)
	tree.Format(x, l)
}
