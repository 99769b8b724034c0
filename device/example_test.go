package device_test

import (
	"strings"
	"testing"

	"annex/api"
	"annex/device"
)

// TestP5_ChaptersExample: the chapter's table, line by line; the promises that a line shows are many.
func TestP5_ChaptersExample(t *testing.T) {
	a, b, c := full(0x41), full(0x42), full(0x43)
	zeros := fullText(0)
	d, w := device.New(2), toldOf(zeros+zeros)
	sameState(t, d, w)
	is(t, "Write(1, A)", d.Write(1, a), api.OK)
	is(t, "Write(1, B)", d.Write(1, b), api.OK)
	is(t, "Write(2, A)", d.Write(2, a), api.ErrBlock)
	is(t, "Write(0, 511 bytes)", d.Write(0, a[:511]), api.ErrLength)
	w.pends = []line{{1, string(a)}, {1, string(b)}}
	sameState(t, d, w)
	is(t, "Arm(2)", d.Arm(2), api.OK)
	is(t, "Write(0, C)", d.Write(0, c), api.OK)
	is(t, "Flush()", d.Flush(), api.ErrPower)
	w.pends, w.off = append(w.pends, line{0, string(c)}), true
	sameState(t, d, w)
	is(t, "Write(9, A)", d.Write(9, a), api.ErrBlock)
	is(t, "Arm(0)", d.Arm(0), api.ErrPower)
	is(t, "Arm(-1)", d.Arm(-1), api.ErrArg)
	sameState(t, d, w)
	d.Crash([]bool{true, false})
	w = toldOf(zeros + string(a))
	sameState(t, d, w)
	is(t, "Write(0, C)", d.Write(0, c), api.OK)
	d.Crash([]bool{true, true, true})
	w = toldOf(string(c) + string(a))
	sameState(t, d, w)
	is(t, "Arm(1)", d.Arm(1), api.OK)
	is(t, "Write(9, A)", d.Write(9, a), api.ErrBlock)
	is(t, "Write(0, A)", d.Write(0, a), api.ErrPower)
	w.off = true
	sameState(t, d, w)
}

func TestP5_7TheFailingCallDoesNothingElse(t *testing.T) {
	for _, fails := range []string{"Write", "Flush"} {
		d, w := device.New(2), toldOf(strings.Repeat("\x00", 1024))
		d.Write(1, full(1))
		d.Arm(1)
		if fails == "Write" {
			d.Write(0, full(2))
		} else {
			d.Flush()
		}
		w.pends, w.off = []line{{1, fullText(1)}}, true
		sameState(t, d, w)
		d.Crash(nil)
		sameState(t, d, toldOf(strings.Repeat("\x00", 1024)))
	}
}
