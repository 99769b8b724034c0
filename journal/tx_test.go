package journal_test

import (
	"fmt"
	"math"
	"slices"
	"testing"

	"annex/api"
)

// notOutside are numbers that are no blocks outside the journal in the blocks 2 to 31 of 40.
func notOutside() []int {
	return []int{-1, -2, -40, math.MinInt, 2, 3, 16, 30, 31, 40, 41, 4096, 1 << 32, 1<<32 + 1, math.MaxInt}
}

func outside() []int { return append([]int{0, 1}, upTo(32, 40)...) }

func TestP7_3BeginWhileOneIsOpen(t *testing.T) {
	p := formatted(t, 40, 2, 30)
	p.begin()
	for range 3 {
		p.is("Begin", p.begin(), false)
	}
	p.write(0, full(1))
	p.is("Begin", p.begin(), false)
	p.drop()
	p.is("Begin behind Drop", p.begin(), true)
	p.is("Commit", p.commit(), api.OK)
	p.is("Begin behind Commit", p.begin(), true)
}

// calls are the calls of a transaction with arguments that are right.
func calls(p *pair) map[string]func() api.Errno {
	return map[string]func() api.Errno{
		"Read":   func() api.Errno { _, e := p.read(1); return e },
		"Write":  func() api.Errno { return p.write(1, full(9)) },
		"Save":   func() api.Errno { _, e := p.save(); return e },
		"Back":   func() api.Errno { return p.back(1) },
		"Commit": func() api.Errno { return p.commit() },
	}
}

func wrongCalls(p *pair) map[string]func() api.Errno {
	return map[string]func() api.Errno{
		"Read of no block":  func() api.Errno { _, e := p.read(2); return e },
		"Write of no block": func() api.Errno { return p.write(-1, nil) },
		"Write of no bytes": func() api.Errno { return p.write(1, nil) },
		"Back to no mark":   func() api.Errno { return p.back(7) },
	}
}

// using is a pair with a transaction that has written and saved.
func using(t *testing.T) *pair {
	t.Helper()
	p := formatted(t, 40, 2, 30)
	p.put(full(1), 0, 39)
	p.begin()
	p.save()
	p.write(0, full(2))
	return p
}

// TestP7_3NotOpenAnyMore: each call behind each way to an end.
func TestP7_3NotOpenAnyMore(t *testing.T) {
	ways := map[string]func(p *pair){
		"Drop":                        func(p *pair) { p.drop() },
		"Commit":                      func(p *pair) { p.commit() },
		"Commit without power":        func(p *pair) { p.fails(); p.commit() },
		"Commit of a power loss":      func(p *pair) { p.arm(2); p.commit() },
		"Drop, power loss":            func(p *pair) { p.drop(); p.fails() },
		"Check without power":         func(p *pair) { p.fails(); p.check() },
		"Check of a power loss":       func(p *pair) { p.arm(1); p.check() },
		"Begin without power":         func(p *pair) { p.fails(); p.begin() },
		"Drop, Begin":                 func(p *pair) { p.drop(); p.j.Begin(); p.w.begin() },
		"Drop, Begin, Drop, no power": func(p *pair) { p.drop(); p.j.Begin().Drop(); p.w.begin().drop(); p.fails() },
	}
	for way, end := range ways {
		p := using(t)
		end(p)
		for name, call := range calls(p) {
			p.is(way+", "+name, call(), api.ErrEnded)
		}
		for name, call := range wrongCalls(p) {
			p.is(way+", "+name, call(), api.ErrEnded)
		}
		p.is("Seq", p.x.Seq(), 0)
		p.is("Blocks", len(p.x.Blocks()), 0)
		p.drop()
	}
}

// TestP7_3DropOfAnOldOne: a transaction that has ended does not end the one that is open.
func TestP7_3DropOfAnOldOne(t *testing.T) {
	p := using(t)
	old := p.x
	p.commit()
	p.begin()
	p.write(1, full(3))
	old.Drop()
	p.is("Commit of an old one", old.Commit(), api.ErrEnded)
	p.is("Begin", p.begin(), false)
	p.is("Blocks", p.x.Blocks(), []int{1})
	p.is("Commit", p.commit(), api.OK)
}

// TestP7_3EachCallMeetsThePowerLoss: the first one answers ErrPower, those behind it ErrEnded.
func TestP7_3EachCallMeetsThePowerLoss(t *testing.T) {
	for name := range calls(nil) {
		p := using(t)
		p.fails()
		p.is(name+" without power", calls(p)[name](), api.ErrPower)
		for behind, call := range calls(p) {
			p.is(name+" without power, "+behind, call(), api.ErrEnded)
		}
		p.is("Check", p.check(), api.ErrEnded)
		p.is("Begin", p.begin(), false)
		p.state(0, 0, 0)
	}
}

// TestP7_3ArgumentsComeAheadOfThePower: an argument's error does not meet the power loss.
func TestP7_3ArgumentsComeAheadOfThePower(t *testing.T) {
	p := using(t)
	p.fails()
	for range 2 {
		for _, b := range notOutside() {
			_, code := p.read(b)
			p.is("Read", code, api.ErrPlace)
			p.is("Write", p.write(b, full(1)), api.ErrPlace)
			p.is("Write of no bytes", p.write(b, nil), api.ErrPlace)
		}
		for _, n := range []int{0, 1, 511, 513, 1024} {
			p.is("Write", p.write(1, make([]byte, n)), api.ErrLength)
		}
	}
	p.state(2, 25, 2)
	p.is("Seq", p.x.Seq(), 2)
	p.is("Blocks", p.x.Blocks(), []int{0})
	p.is("Back to no mark", p.back(7), api.ErrPower)
	p.state(0, 0, 0)
}

// TestP7_3PowerComesAheadOfTheRest: ErrTxBig and ErrMark stand behind ErrPower.
func TestP7_3PowerComesAheadOfTheRest(t *testing.T) {
	p := formatted(t, 100, 0, 30)
	p.begin()
	for b := 30; b < 54; b++ {
		p.write(b, full(1))
	}
	p.is("the 25th block", p.write(99, full(1)), api.ErrTxBig)
	p.fails()
	p.is("the 25th block without power", p.write(99, full(1)), api.ErrPower)
	p.is("then", p.write(99, full(1)), api.ErrEnded)
}

func TestP7_3DropWithoutPowerEndsTheTransactionAlone(t *testing.T) {
	p := using(t)
	p.fails()
	p.drop()
	p.state(2, 25, 2)
	p.is("Check", p.check(), api.ErrPower)
	p.state(0, 0, 0)
	p.is("Check", p.check(), api.ErrEnded)
}

func TestP7_3BeginWithoutPowerEndsTheJournal(t *testing.T) {
	for _, open := range []bool{false, true} {
		p := using(t)
		if !open {
			p.drop()
		}
		p.fails()
		p.state(2, 25, 2)
		p.is("Begin", p.begin(), false)
		p.state(0, 0, 0)
		p.is("Check", p.check(), api.ErrEnded)
		_, code := p.read(0)
		p.is("Read", code, api.ErrEnded)
	}
}

func TestP7_3WrongPlacesAndLengths(t *testing.T) {
	p := using(t)
	for _, b := range notOutside() {
		_, code := p.read(b)
		p.is("Read", code, api.ErrPlace)
		for _, n := range []int{0, 511, 512, 513} {
			p.is("Write", p.write(b, make([]byte, n)), api.ErrPlace)
		}
	}
	for _, b := range outside() {
		for _, n := range []int{0, 1, 511, 513, 1024} {
			p.is("Write", p.write(b, make([]byte, n, n+512)), api.ErrLength)
		}
	}
	p.is("Blocks", p.x.Blocks(), []int{0})
}

func TestP7_3EachBlockOutside(t *testing.T) {
	for _, r := range rightRegions() {
		p := formatted(t, 40, r[0], r[1])
		p.begin()
		var want []int
		for b := -2; b < 43; b++ {
			if code := p.write(b, full(byte(b))); code == api.OK {
				want = append(want, b)
			}
			p.read(b)
		}
		p.is("Blocks", p.x.Blocks(), want)
		p.is("how many", len(want), 40-r[1])
		p.commit()
		p.begin()
		for _, b := range want {
			data, _ := p.read(b)
			p.is("Read", string(data), string(full(byte(b))))
		}
	}
}

// TestP7_3ReadTellsTheNewest: written, committed, home, never written.
func TestP7_3ReadTellsTheNewest(t *testing.T) {
	p := formatted(t, 40, 2, 30)
	reads := func(b int, want byte) {
		t.Helper()
		data, code := p.read(b)
		p.is("Read", []any{code, string(data)}, []any{api.OK, string(full(want))})
	}
	p.put(full(1), 0, 1, 39)
	p.check()
	p.put(full(2), 0, 39)
	p.put(full(3), 39, 38)
	p.begin()
	p.write(0, full(4))
	reads(0, 4)
	reads(1, 1)
	reads(39, 3)
	reads(38, 3)
	data, _ := p.read(37)
	p.is("a block that nothing wrote", string(data), string(noise(40)[37*512:38*512]))
	p.write(39, full(5))
	p.write(39, full(6))
	reads(39, 6)
	p.check()
	reads(0, 4)
	reads(39, 6)
	reads(38, 3)
	p.drop()
	p.begin()
	reads(0, 2)
	reads(39, 3)
}

// TestP7_3ZerosAreWritten: a block of zeros is a block like any other.
func TestP7_3ZerosAreWritten(t *testing.T) {
	p := formatted(t, 40, 2, 30)
	p.put(make([]byte, 512), 1, 39)
	p.state(2, 25, 2)
	p.begin()
	data, _ := p.read(39)
	p.is("Read", slices.Max(data), 0)
	p.check()
	p.is("what lasts", slices.Max(p.d.Durable()[39*512:]), 0)
}

func TestP7_3TheGreatestTransaction(t *testing.T) {
	p := formatted(t, 100, 3, 27)
	p.begin()
	p.save()
	for i, b := range []int{99, 0, 98, 2, 97, 1, 30, 31, 50, 49, 48, 47, 46, 45, 44, 60, 61, 62, 63, 64, 80, 79, 78, 77} {
		p.is(fmt.Sprint("block ", i+1), p.write(b, full(byte(i))), api.OK)
	}
	for range 3 {
		p.is("block 25", p.write(40, full(1)), api.ErrTxBig)
		p.is("block 24 again", p.write(77, full(2)), api.OK)
		p.is("block 1 again", p.write(99, full(3)), api.OK)
	}
	p.is("ErrPlace comes ahead", p.write(3, full(1)), api.ErrPlace)
	p.is("ErrLength comes ahead", p.write(40, full(1)[:511]), api.ErrLength)
	p.save()
	p.back(2)
	p.is("block 25", p.write(40, full(1)), api.ErrTxBig)
	p.is("Commit", p.commit(), api.OK)
	p.state(2, 0, 24)
	p.begin()
	data, _ := p.read(99)
	p.is("Read", string(data), string(full(3)))
}

// TestP7_3RoomBehindBack: what is undone is written no longer.
func TestP7_3RoomBehindBack(t *testing.T) {
	p := formatted(t, 100, 0, 30)
	p.begin()
	for b := 30; b < 53; b++ {
		p.write(b, full(1))
	}
	p.save()
	for b := 53; b < 57; b++ {
		p.write(b, full(2))
		p.is("one more", p.write(60, full(2)), api.ErrTxBig)
		p.back(1)
	}
	p.is("the 24th block", p.write(60, full(2)), api.OK)
	p.is("Commit", p.commit(), api.OK)
}

func TestP7_3Marks(t *testing.T) {
	p := using(t)
	for _, m := range []int{0, -1, 2, 3, math.MaxInt, math.MinInt} {
		p.is("Back to no mark", p.back(m), api.ErrMark)
	}
	p.is("Blocks", p.x.Blocks(), []int{0})
	for want := 2; want <= 6; want++ {
		m, _ := p.save()
		p.is("Save", m, want)
		p.write(31+want, full(byte(want)))
		p.write(0, full(byte(10+want)))
	}
	p.is("Back(4)", p.back(4), api.OK)
	p.is("Blocks", p.x.Blocks(), []int{0, 33, 34})
	data, _ := p.read(0)
	p.is("Read(0)", data[0], 13)
	for _, m := range []int{5, 6, 7} {
		p.is("Back to a mark that is gone", p.back(m), api.ErrMark)
	}
	m, _ := p.save()
	p.is("Save", m, 7)
	p.is("Back(4)", p.back(4), api.OK)
	p.is("Back(7)", p.back(7), api.ErrMark)
	p.is("Back(1)", p.back(1), api.OK)
	p.is("Blocks", len(p.x.Blocks()), 0)
	data, _ = p.read(0)
	p.is("Read(0)", data[0], 1)
	p.is("Commit", p.commit(), api.OK)
	p.state(2, 25, 2)
}

// TestP7_3AMarkStays: one goes back to it as often as one likes.
func TestP7_3AMarkStays(t *testing.T) {
	p := formatted(t, 40, 2, 30)
	p.begin()
	p.write(0, full(1))
	p.write(1, full(1))
	p.save()
	p.save()
	for i := range 4 {
		p.write(0, full(byte(2+i)))
		p.write(39, full(byte(2+i)))
		p.is("Back(2)", p.back(2), api.OK)
		data, _ := p.read(0)
		p.is("Read(0)", data[0], 1)
		p.is("Blocks", p.x.Blocks(), []int{0, 1})
	}
	p.write(1, full(9))
	p.is("Back(1)", p.back(1), api.OK)
	p.is("Back(2)", p.back(2), api.ErrMark)
	data, _ := p.read(1)
	p.is("Read(1)", data[0], 1)
}

// TestP7_3MarksOfEachTransaction: they begin anew, and none goes over.
func TestP7_3MarksOfEachTransaction(t *testing.T) {
	p := using(t)
	p.save()
	p.drop()
	p.begin()
	p.is("Back(1)", p.back(1), api.ErrMark)
	m, _ := p.save()
	p.is("Save", m, 1)
}

func TestP7_3DropLeavesNothing(t *testing.T) {
	p := formatted(t, 40, 2, 30)
	p.put(full(1), 0)
	for range 3 {
		p.begin()
		p.is("Seq", p.x.Seq(), 2)
		p.write(0, full(2))
		p.write(39, full(2))
		p.arm(1)
		p.drop()
		p.is("Power", p.d.Power(), true)
		p.arm(0)
		p.state(2, 26, 1)
	}
	p.begin()
	data, _ := p.read(0)
	p.is("Read(0)", data[0], 1)
}

// TestP7_3ReadsAreNoOperations: nothing but Commit and Check writes or flushes.
func TestP7_3ReadsAreNoOperations(t *testing.T) {
	p := using(t)
	p.arm(1)
	for _, b := range outside() {
		p.read(b)
		p.write(b, full(1))
		p.save()
		p.back(1)
		p.x.Blocks()
		p.x.Seq()
		p.j.State()
		p.j.Begin()
	}
	p.is("Power", p.d.Power(), true)
	p.drop()
	p.is("Begin", p.begin(), true)
	p.is("Power", p.d.Power(), true)
}
