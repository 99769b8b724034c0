package device_test

import (
	"fmt"
	"math"
	"strings"
	"testing"

	"annex/api"
	"annex/device"
)

// noBlocks are numbers of blocks that a device of two has not.
func noBlocks() []int {
	return []int{-1, -2, 2, 3, 4095, 4096, 1 << 32, 1 << 55, 1<<55 + 1, -1 << 55, math.MaxInt, math.MinInt}
}

func wrongLengths() []int { return []int{0, 1, 510, 511, 513, 1023, 1024, 4096} }

// unpowered is a device of two blocks whose power has failed: block 0 full of 1 lasts, block 1 full of 2 pends.
func unpowered() (*device.Device, *told) {
	d, w := device.New(2), toldOf(strings.Repeat("\x00", 1024))
	d.Write(0, full(1))
	d.Flush()
	d.Arm(2)
	d.Write(1, full(2))
	d.Flush()
	w.lasts[0] = fullText(1)
	w.pends = []line{{1, fullText(2)}}
	w.off = true
	return d, w
}

func TestP5_4ReadTellsWhatWasWrittenLast(t *testing.T) {
	data := counted(4)
	d, w := imageOf(t, data), toldOf(string(data))
	for i, b := range []int{1, 1, 3, 1, 0} {
		x := byte(0xa0 + i)
		d.Write(b, full(x))
		w.write(b, fullText(x))
		sameState(t, d, w)
	}
	d.Flush()
	w.flush()
	sameState(t, d, w)
	d.Write(3, full(0xb0))
	w.write(3, fullText(0xb0))
	sameState(t, d, w)
}

func TestP5_4ReadOfNoBlock(t *testing.T) {
	d := device.New(2)
	off, _ := unpowered()
	for _, b := range noBlocks() {
		if data, e := d.Read(b); data != nil || e != api.ErrBlock {
			t.Errorf("Read(%d) is %d bytes, %d", b, len(data), e)
		}
		if data, e := off.Read(b); data != nil || e != api.ErrBlock {
			t.Errorf("Read(%d) with the power off is %d bytes, %d", b, len(data), e)
		}
	}
}

func TestP5_4ReadWithThePowerOff(t *testing.T) {
	d, _ := unpowered()
	for b := range 2 {
		if data, e := d.Read(b); data != nil || e != api.ErrPower {
			t.Errorf("Read(%d) with the power off is %d bytes, %d", b, len(data), e)
		}
	}
}

func TestP5_4ReadIsNotCounted(t *testing.T) {
	d := device.New(1)
	d.Arm(1)
	for range 5 {
		if _, e := d.Read(0); e != api.OK {
			t.Errorf("Read of an armed device: %d", e)
		}
		d.Size()
		d.Power()
		d.Pending()
		d.Durable()
	}
	is(t, "the first Flush of an armed device", d.Flush(), api.ErrPower)
}

func TestP5_5EachWritePendsForItself(t *testing.T) {
	d, w := device.New(3), toldOf(strings.Repeat("\x00", 3*512))
	for i, b := range []int{2, 0, 2, 2, 0, 1, 2} {
		x := byte(i / 2)
		is(t, "Write", d.Write(b, full(x)), api.OK)
		w.write(b, fullText(x))
		sameState(t, d, w)
	}
	if n := len(d.Pending()); n != 7 {
		t.Errorf("%d writes pend, want 7", n)
	}
}

func TestP5_5WriteOfWhatIsThereAlreadyPends(t *testing.T) {
	d := device.New(1)
	d.Write(0, full(0))
	d.Write(0, full(0))
	if n := len(d.Pending()); n != 2 {
		t.Errorf("%d writes pend, want 2", n)
	}
}

func TestP5_5WritesThatAreRefusedLeaveNothing(t *testing.T) {
	data := counted(2)
	d, w := imageOf(t, data), toldOf(string(data))
	off, unpoweredTold := unpowered()
	for _, b := range noBlocks() {
		for _, n := range append(wrongLengths(), 512) {
			what := fmt.Sprintf("Write(%d, %d bytes)", b, n)
			is(t, what, d.Write(b, make([]byte, n)), api.ErrBlock)
			is(t, what+" with the power off", off.Write(b, make([]byte, n)), api.ErrBlock)
		}
	}
	for _, n := range wrongLengths() {
		what := fmt.Sprintf("Write(1, %d bytes)", n)
		is(t, what, d.Write(1, make([]byte, n, 2*n+600)), api.ErrLength)
		is(t, what+" with the power off", off.Write(1, make([]byte, n)), api.ErrLength)
	}
	is(t, "Write(1, nil)", d.Write(1, nil), api.ErrLength)
	is(t, "Write(1, 512 bytes) with the power off", off.Write(1, full(9)), api.ErrPower)
	sameState(t, d, w)
	sameState(t, off, unpoweredTold)
}

func TestP5_6FlushMakesAllLast(t *testing.T) {
	d, w := device.New(3), toldOf(strings.Repeat("\x00", 3*512))
	for i, b := range []int{2, 0, 2, 1, 0} {
		d.Write(b, full(byte(i+1)))
		w.write(b, fullText(byte(i+1)))
	}
	is(t, "Flush", d.Flush(), api.OK)
	w.flush()
	sameState(t, d, w)
	if want := fullText(5) + fullText(4) + fullText(3); string(d.Durable()) != want {
		t.Errorf("Durable behind a Flush is %s, want %s", short(string(d.Durable())), short(want))
	}
	is(t, "a second Flush", d.Flush(), api.OK)
	sameState(t, d, w)
}

func TestP5_6FlushWithThePowerOff(t *testing.T) {
	d, w := unpowered()
	for range 3 {
		is(t, "Flush with the power off", d.Flush(), api.ErrPower)
		sameState(t, d, w)
	}
}

func TestP5_6FlushAtWhichThePowerFails(t *testing.T) {
	d, w := device.New(1), toldOf(fullText(0))
	d.Write(0, full(1))
	w.write(0, fullText(1))
	d.Arm(1)
	is(t, "the Flush at which the power fails", d.Flush(), api.ErrPower)
	w.off = true
	sameState(t, d, w)
}

func TestP5_7ArmOfWrongNumbers(t *testing.T) {
	d := device.New(1)
	off, w := unpowered()
	is(t, "Arm(2)", d.Arm(2), api.OK)
	for _, k := range []int{-1, -2, math.MinInt} {
		is(t, fmt.Sprintf("Arm(%d)", k), d.Arm(k), api.ErrArg)
		is(t, fmt.Sprintf("Arm(%d) with the power off", k), off.Arm(k), api.ErrArg)
	}
	is(t, "the first Flush behind Arm(2) and Arms that were refused", d.Flush(), api.OK)
	is(t, "the second one", d.Flush(), api.ErrPower)
	for _, k := range []int{0, 1, 5, math.MaxInt} {
		is(t, fmt.Sprintf("Arm(%d) with the power off", k), off.Arm(k), api.ErrPower)
	}
	sameState(t, off, w)
	off.Crash(nil)
	is(t, "Flush behind Arms with the power off and a Crash", off.Flush(), api.OK)
}

func TestP5_7PowerFailsAtTheKthCall(t *testing.T) {
	for k := 1; k <= 40; k++ {
		for _, writes := range []bool{true, false} {
			d := device.New(1)
			is(t, "Arm", d.Arm(k), api.OK)
			for i := 1; i <= k+3; i++ {
				call := d.Flush
				if writes {
					call = func() api.Errno { return d.Write(0, full(byte(i))) }
				}
				want := api.OK
				if i >= k {
					want = api.ErrPower
				}
				is(t, fmt.Sprintf("Arm(%d), call %d, a Write %v", k, i, writes), call(), want)
				if d.Power() != (i < k) {
					t.Errorf("Arm(%d), behind call %d: the power is on: %v", k, i, d.Power())
				}
			}
			if n := len(d.Pending()); writes && n != k-1 {
				t.Errorf("Arm(%d): %d writes pend", k, n)
			}
		}
	}
}

func TestP5_7RefusedWritesAreNotCounted(t *testing.T) {
	d := device.New(1)
	d.Arm(2)
	for range 5 {
		d.Write(1, full(1))
		d.Write(-1, full(1))
		d.Write(0, full(1)[:511])
		d.Write(0, make([]byte, 513))
		d.Write(7, nil)
	}
	if !d.Power() {
		t.Error("the power failed at a Write that was refused")
	}
	is(t, "the first Write", d.Write(0, full(1)), api.OK)
	is(t, "the second one", d.Write(0, full(2)), api.ErrPower)
}

func TestP5_7ArmTakesTheOlderOnesPlace(t *testing.T) {
	for older := range 4 {
		for spent := 0; spent < max(older, 1); spent++ {
			for k := range 4 {
				d, w := device.New(1), toldOf(fullText(0))
				d.Arm(older)
				w.arm(older)
				for range spent {
					d.Flush()
					w.flush()
				}
				d.Arm(k)
				w.arm(k)
				for i := range 6 {
					is(t, fmt.Sprintf("Arm(%d), %d calls, Arm(%d): call %d", older, spent, k, i+1), d.Flush(), w.flush())
				}
			}
		}
	}
}

func TestP5_7GreatNumbers(t *testing.T) {
	d := device.New(1)
	for _, k := range []int{100, 1 << 31, 1 << 32, math.MaxInt} {
		is(t, fmt.Sprintf("Arm(%d)", k), d.Arm(k), api.OK)
		for range 50 {
			is(t, fmt.Sprintf("Flush behind Arm(%d)", k), d.Flush(), api.OK)
		}
	}
}

func TestP5_8PowerIsOffTillCrash(t *testing.T) {
	d, _ := unpowered()
	for range 3 {
		d.Write(0, full(3))
		d.Flush()
		d.Arm(0)
		d.Arm(3)
		d.Read(0)
		d.Pending()
		d.Durable()
		d.Size()
		if d.Power() {
			t.Fatal("the power is on again without a Crash")
		}
	}
	d.Crash(nil)
	if !d.Power() {
		t.Error("the power is off behind a Crash")
	}
	d.Flush()
	if !d.Power() {
		t.Error("the power is off behind a Crash and a Flush")
	}
}

func TestP5_9PendingIsInTheOrderOfTheWrites(t *testing.T) {
	d := device.New(64)
	var want []line
	for i := range 300 {
		b := i * 37 % 64
		d.Write(b, full(byte(i)))
		want = append(want, line{b, fullText(byte(i))})
	}
	for _, when := range []string{"on", "off"} {
		if got := linesOf(d.Pending()); fmt.Sprint(got) != fmt.Sprint(want) {
			t.Errorf("with the power %s Pending is %.300s", when, shortLines(got))
		}
		d.Arm(1)
		d.Write(0, full(0))
	}
	d.Crash(nil)
	if n := len(d.Pending()); n != 0 {
		t.Errorf("%d writes pend behind a Crash", n)
	}
}

// TestP5_10EverySurvivor: each list of survivors of up to six writes, also shorter and longer than what pends, with the power on and off.
func TestP5_10EverySurvivor(t *testing.T) {
	image := counted(3)
	blocks := []int{1, 0, 1, 2, 1, 0}
	for n := range len(blocks) + 1 {
		for long := range n + 3 {
			for mask := range 1 << long {
				keep := make([]bool, long)
				for i := range keep {
					keep[i] = mask>>i&1 == 1
				}
				crashed(t, image, blocks[:n], keep, mask%2 == 0)
			}
		}
	}
}

func crashed(t *testing.T, image []byte, blocks []int, keep []bool, on bool) {
	t.Helper()
	d, w := imageOf(t, image), toldOf(string(image))
	for i, b := range blocks {
		d.Write(b, full(byte(i+1)))
		w.write(b, fullText(byte(i+1)))
	}
	if !on {
		d.Arm(1)
		d.Flush()
	}
	d.Crash(keep)
	w.crash(keep)
	sameState(t, d, w)
	if t.Failed() {
		t.Fatalf("behind writes of %v and Crash(%v), the power on: %v", blocks, keep, on)
	}
}

func TestP5_10CrashDisarms(t *testing.T) {
	for k := 1; k < 5; k++ {
		for spent := range k + 1 {
			d := device.New(1)
			d.Arm(k)
			for range spent {
				d.Flush()
			}
			d.Crash(nil)
			for range 10 {
				is(t, fmt.Sprintf("Arm(%d), %d calls, Crash: Flush", k, spent), d.Flush(), api.OK)
				is(t, fmt.Sprintf("Arm(%d), %d calls, Crash: Write", k, spent), d.Write(0, full(1)), api.OK)
			}
		}
	}
}

func TestP5_10NoListIsNoSurvivor(t *testing.T) {
	for _, keep := range [][]bool{nil, {}, make([]bool, 5)} {
		d := device.New(1)
		d.Write(0, full(1))
		d.Crash(keep)
		sameState(t, d, toldOf(fullText(0)))
	}
}

func TestP5_11DurableIsWhatLasts(t *testing.T) {
	data := counted(3)
	d := imageOf(t, data)
	durable := func(when string, want string) {
		t.Helper()
		if got := string(d.Durable()); got != want {
			t.Errorf("Durable %s is %s, want %s", when, short(got), short(want))
		}
	}
	durable("at first", string(data))
	d.Write(1, full(1))
	durable("behind a Write", string(data))
	d.Arm(1)
	d.Flush()
	durable("with the power off", string(data))
	d.Crash([]bool{true})
	want := string(data[:512]) + fullText(1) + string(data[1024:])
	durable("behind a Crash", want)
	d.Write(0, full(2))
	d.Write(2, full(3))
	d.Flush()
	durable("behind a Flush", fullText(2)+fullText(1)+fullText(3))
}
