package rto

import "annex/api"

// row is the least and the most that a number may be.
type row struct{ least, most int }

func (r row) holds(n int) bool { return r.least <= n && n <= r.most }

func (r row) keep(n int) int { return min(max(n, r.least), r.most) }

// narrowed leaves of a row what lies from least to most.
func (r row) narrowed(least, most int) row {
	return row{max(r.least, least), min(r.most, most)}
}

// Where in the table the row of an estimate's number stands.
const (
	rowS8 = iota
	rowV4
	rowRto
	rowShift
	rowsLen
)

// rows has for Rto what any time of the timers may be, a round trip and the params' own too: params narrow it.
var rows = [rowsLen]row{
	rowS8:    {0, 1 << 24},
	rowV4:    {0, 1 << 24},
	rowRto:   {1, api.MaxTicks},
	rowShift: {0, 20},
}

// waits is the row of Rto with these params.
func waits(p api.Params) row { return rows[rowRto].narrowed(p.Min, p.Max) }

// check is a number and what it has to pass.
type check struct {
	passes func(int) bool
	number int
}

func allPass(list ...check) bool {
	for _, c := range list {
		if !c.passes(c.number) {
			return false
		}
	}
	return true
}

func paramsMayBe(p api.Params) bool {
	return allPass(
		check{rows[rowRto].holds, p.Min},
		check{rows[rowRto].holds, p.Max},
		check{waits(p).holds, p.First},
	)
}

// mayBe judges the params, and the estimate with them.
func mayBe(p api.Params, e api.Est) bool {
	return paramsMayBe(p) && (e.Known || e.S8 == 0 && e.V4 == 0) && allPass(
		check{rows[rowS8].holds, e.S8},
		check{rows[rowV4].holds, e.V4},
		check{waits(p).holds, e.Rto},
		check{rows[rowShift].holds, e.Shift},
	)
}

// kept is e with each number brought into its row.
func kept(p api.Params, e api.Est) api.Est {
	e.S8 = rows[rowS8].keep(e.S8)
	e.V4 = rows[rowV4].keep(e.V4)
	e.Rto = waits(p).keep(e.Rto)
	e.Shift = rows[rowShift].keep(e.Shift)
	return e
}
