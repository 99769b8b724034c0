package journal_test

import (
	"fmt"
	"math"
	"testing"

	"annex/api"
	"annex/device"
	"annex/journal"
)

// wrongRegions are regions that a device of 40 blocks has not.
func wrongRegions() [][2]int {
	return [][2]int{
		{-1, 27}, {-1, 30}, {-1, 41}, {-27, 27}, {math.MinInt, 27}, {math.MinInt, math.MinInt},
		{0, 26}, {0, 25}, {0, 1}, {0, 0}, {0, -1}, {5, 26}, {0, math.MinInt}, {13, math.MinInt},
		{0, 41}, {1, 40}, {13, 28}, {14, 27}, {40, 27}, {41, 27}, {4096, 27},
		{math.MaxInt, 27}, {math.MaxInt, math.MaxInt}, {math.MaxInt - 26, 27}, {1, math.MaxInt}, {0, math.MaxInt}, {27, math.MaxInt}, {1 << 62, 1 << 62},
	}
}

// rightRegions are the least and the greatest ones of a device of 40 blocks, and others.
func rightRegions() [][2]int { return [][2]int{{0, 27}, {0, 40}, {13, 27}, {2, 30}, {1, 39}, {12, 28}} }

func TestP7_1EachOperationOfFormat(t *testing.T) {
	for _, r := range rightRegions() {
		for k := 0; k <= r[1]+3; k++ {
			p := pairOf(t, noise(40), r[0], r[1])
			p.arm(k)
			code := p.format()
			p.is(fmt.Sprintf("Arm(%d), Format%v", k, r), code == api.OK, k == 0 || k > r[1]+2)
		}
	}
}

func TestP7_1FormatOfADeviceThatIsTheRegion(t *testing.T) {
	p := formatted(t, 27, 0, 27)
	p.begin()
	for _, b := range []int{-1, 0, 1, 26, 27} {
		p.is("Write where nothing is outside", p.write(b, full(1)), api.ErrPlace)
	}
	p.is("Commit", p.commit(), api.OK)
}

func TestP7_1FormatOfTheGreatestDevice(t *testing.T) {
	p := formatted(t, 4096, 1, 4095)
	p.state(1, 4094, 0)
	p.put(full(1), 0)
	p.check()
	p.state(2, 4094, 0)
}

func TestP7_1WrongRegions(t *testing.T) {
	for _, r := range wrongRegions() {
		for _, off := range []bool{false, true} {
			p := pairOf(t, noise(40), r[0], r[1])
			if off {
				p.fails()
			}
			p.is(fmt.Sprint("Format", r), p.format(), api.ErrRegion)
			taken, code := p.open()
			p.is(fmt.Sprint("Open", r), []any{taken, code}, []any{0, api.ErrRegion})
		}
	}
}

func TestP7_1NoDevice(t *testing.T) {
	for _, r := range append(wrongRegions(), rightRegions()...) {
		if code := journal.Format(nil, r[0], r[1]); code != api.ErrRegion {
			t.Errorf("Format(nil, %v): %d", r, code)
		}
		if j, n, code := journal.Open(nil, r[0], r[1]); j != nil || n != 0 || code != api.ErrRegion {
			t.Errorf("Open(nil, %v): %d, %d", r, n, code)
		}
	}
}

func TestP7_1PowerOff(t *testing.T) {
	p := pairOf(t, noise(40), 2, 30)
	p.fails()
	p.is("Format", p.format(), api.ErrPower)
}

// TestP7_1FormatOverAJournal: nothing of an older journal comes back.
func TestP7_1FormatOverAJournal(t *testing.T) {
	p := formatted(t, 40, 2, 30)
	for seq := range 3 {
		p.put(full(byte(seq)), 0, 39)
	}
	p.format()
	taken, _ := p.open()
	p.is("taken", taken, 0)
	p.state(1, 29, 0)
}

func TestP7_1JournalsSideBySide(t *testing.T) {
	d := device.New(60)
	for _, start := range []int{3, 30} {
		if code := journal.Format(d, start, 27); code != api.OK {
			t.Fatalf("Format: %d", code)
		}
	}
	a, _, _ := journal.Open(d, 3, 27)
	b, _, _ := journal.Open(d, 30, 27)
	x, y := a.Begin(), b.Begin()
	for i, x := range []*journal.Tx{x, y} {
		x.Write(58+i, full(byte(i+1)))
		x.Commit()
	}
	for i, j := range []*journal.Journal{a, b} {
		if code := j.Check(); code != api.OK || d.Durable()[(58+i)*512] != byte(i+1) {
			t.Errorf("journal %d: Check: %d", i, code)
		}
	}
}
