package device_test

import (
	"fmt"
	"math/rand"
	"slices"
	"strings"
	"testing"

	"annex/api"
	"annex/device"
)

// A deed is one call that may change a device.
type deed struct {
	call  byte // w Write, f Flush, a Arm, c Crash
	n     int  // the block, or Arm's number
	x     byte // what the block is full of
	short int  // bytes that a Write lacks
	keep  []bool
}

func (s deed) String() string {
	switch s.call {
	case 'w':
		return fmt.Sprintf("Write(%d, %d*%02x)", s.n, 512-s.short, s.x)
	case 'f':
		return "Flush"
	case 'a':
		return fmt.Sprintf("Arm(%d)", s.n)
	}
	return fmt.Sprintf("Crash(%v)", s.keep)
}

func (s deed) data() []byte { return slices.Repeat([]byte{s.x}, 512-s.short) }

func (s deed) on(d *device.Device) api.Errno {
	switch s.call {
	case 'w':
		return d.Write(s.n, s.data())
	case 'f':
		return d.Flush()
	case 'a':
		return d.Arm(s.n)
	}
	d.Crash(s.keep)
	return api.OK
}

func (s deed) onTold(w *told) api.Errno {
	switch s.call {
	case 'w':
		return w.write(s.n, string(s.data()))
	case 'f':
		return w.flush()
	case 'a':
		return w.arm(s.n)
	}
	w.crash(s.keep)
	return api.OK
}

func someDeed(r *rand.Rand, blocks int) deed {
	switch k := r.Intn(100); {
	case k < 60:
		return deed{call: 'w', n: r.Intn(blocks), x: byte(r.Intn(256))}
	case k < 64:
		return deed{call: 'w', n: r.Intn(blocks+4) - 2, short: r.Intn(3) - 1}
	case k < 80:
		return deed{call: 'f'}
	case k < 88:
		return deed{call: 'a', n: r.Intn(12) - 1}
	}
	keep := make([]bool, r.Intn(12))
	for i := range keep {
		keep[i] = r.Intn(2) == 0
	}
	return deed{call: 'c', keep: keep}
}

func someDeeds(seed int64, blocks, n int) []deed {
	r := rand.New(rand.NewSource(seed))
	list := make([]deed, n)
	for i := range list {
		list[i] = someDeed(r, blocks)
	}
	return list
}

// TestP5_13LongPlays: long plays of all calls, each answer and each state held against the words.
func TestP5_13LongPlays(t *testing.T) {
	for seed := range int64(60) {
		blocks := 1 + int(seed)%5
		image := counted(blocks)
		d, w := imageOf(t, image), toldOf(string(image))
		for i, s := range someDeeds(seed, blocks, 300) {
			is(t, s.String(), s.on(d), s.onTold(w))
			sameState(t, d, w)
			if t.Failed() {
				t.Fatalf("seed %d, step %d: %v", seed, i, s)
			}
		}
	}
}

// TestP5_13EveryShortPlay: all plays of up to five deeds on two blocks.
func TestP5_13EveryShortPlay(t *testing.T) {
	deeds := []deed{
		{call: 'w', n: 0, x: 1}, {call: 'w', n: 0, x: 2}, {call: 'w', n: 1, x: 3}, {call: 'f'},
		{call: 'a', n: 1}, {call: 'a', n: 2}, {call: 'a', n: 0},
		{call: 'c'}, {call: 'c', keep: []bool{true}}, {call: 'c', keep: []bool{false, true}},
	}
	var play []deed
	var grow func(left int)
	grow = func(left int) {
		d, w := device.New(2), toldOf(strings.Repeat("\x00", 1024))
		for _, s := range play {
			is(t, s.String(), s.on(d), s.onTold(w))
		}
		sameState(t, d, w)
		if t.Failed() {
			t.Fatalf("the play is %v", play)
		}
		for i := 0; left > 0 && i < len(deeds); i++ {
			play = append(play, deeds[i])
			grow(left - 1)
			play = play[:len(play)-1]
		}
	}
	grow(5)
}

// TestP5_13ReadHangsOnTheLastWriteAlone: of two devices with other histories, whose blocks were written with the same bytes last, Read tells the same.
func TestP5_13ReadHangsOnTheLastWriteAlone(t *testing.T) {
	one, two := imageOf(t, counted(3)), imageOf(t, counted(3))
	for k := range 20 {
		one.Write(0, full(byte(k)))
		one.Flush()
		one.Write(1, full(byte(k)))
	}
	two.Write(1, full(19))
	two.Write(0, full(19))
	two.Arm(1)
	two.Arm(0)
	for b := range 3 {
		if x, y := readOf(t, one, b), readOf(t, two, b); string(x) != string(y) {
			t.Errorf("Read(%d) is %s and %s", b, short(string(x)), short(string(y)))
		}
	}
	if string(readOf(t, two, 2)) != string(counted(3)[1024:]) {
		t.Error("a block that was never written is not what Image had")
	}
}

// TestP5_13DurableIsWhatReadTellsBehindFlush: block by block.
func TestP5_13DurableIsWhatReadTellsBehindFlush(t *testing.T) {
	for seed := range int64(40) {
		d := imageOf(t, counted(4))
		for _, s := range someDeeds(seed, 4, 200) {
			if s.on(d) == api.OK && s.call == 'f' {
				durableIsRead(t, d)
			}
		}
	}
}

func durableIsRead(t *testing.T, d *device.Device) {
	t.Helper()
	all := d.Durable()
	for b := range d.Size() {
		if got := readOf(t, d, b); string(got) != string(all[512*b:512*b+512]) {
			t.Errorf("behind a Flush Read(%d) is %s, Durable has %s", b, short(string(got)), short(string(all[512*b:512*b+512])))
		}
	}
}

// TestP5_13ImageOfTheDurable: behind a Crash, a device made of its lasting bytes answers all calls as the crashed one does.
func TestP5_13ImageOfTheDurable(t *testing.T) {
	for seed := range int64(60) {
		old := imageOf(t, counted(3))
		for _, s := range someDeeds(seed, 3, 40) {
			s.on(old)
		}
		before, pending := old.Durable(), old.Pending()
		keep := []bool{true, false, true, true, seed%2 == 0}
		old.Crash(keep)
		for i, p := range pending {
			if i < len(keep) && keep[i] {
				copy(before[512*p.Block:], p.Data)
			}
		}
		if got := old.Durable(); string(got) != string(before) {
			t.Fatalf("seed %d: behind Crash Durable is %s, want %s", seed, short(string(got)), short(string(before)))
		}
		sameAnswers(t, old, imageOf(t, old.Durable()), someDeeds(seed+1000, 3, 40))
	}
}

func sameAnswers(t *testing.T, one, two *device.Device, deeds []deed) {
	t.Helper()
	for _, s := range deeds {
		if e, f := s.on(one), s.on(two); e != f {
			t.Errorf("%v is %d on the crashed device and %d on its image", s, e, f)
		}
		if x, y := linesOf(one.Pending()), linesOf(two.Pending()); !slices.Equal(x, y) {
			t.Errorf("behind %v %s and %s pend", s, shortLines(x), shortLines(y))
		}
		if x, y := string(one.Durable()), string(two.Durable()); x != y || one.Power() != two.Power() || one.Size() != two.Size() {
			t.Errorf("behind %v two devices differ", s)
		}
		for b := range one.Size() {
			x, e := one.Read(b)
			y, f := two.Read(b)
			if string(x) != string(y) || e != f {
				t.Errorf("behind %v Read(%d) is %s, %d and %s, %d", s, b, short(string(x)), e, short(string(y)), f)
			}
		}
	}
}

// TestP5_14NoSurvivorAndAll: at each point of a play: no survivor leaves what lasted last, all of them what a Flush would have left.
func TestP5_14NoSurvivorAndAll(t *testing.T) {
	for seed := range int64(20) {
		deeds := someDeeds(seed, 3, 40)
		for n := range len(deeds) + 1 {
			lasted := string(counted(3))
			none, all, flushed := imageOf(t, counted(3)), imageOf(t, counted(3)), imageOf(t, counted(3))
			for _, s := range deeds[:n] {
				e := s.on(none)
				s.on(all)
				s.on(flushed)
				if s.call == 'c' || s.call == 'f' && e == api.OK {
					lasted = string(none.Durable())
				}
			}
			powered := flushed.Power()
			none.Crash(nil)
			if got := string(none.Durable()); got != lasted {
				t.Fatalf("seed %d, %d steps: Crash with no survivor leaves %s, want %s", seed, n, short(got), short(lasted))
			}
			all.Crash(slices.Repeat([]bool{true}, len(all.Pending())))
			flushed.Arm(0)
			if e := flushed.Flush(); !powered || e != api.OK {
				continue
			}
			if x, y := string(all.Durable()), string(flushed.Durable()); x != y {
				t.Fatalf("seed %d, %d steps: Crash with all leaves %s, Flush %s", seed, n, short(x), short(y))
			}
		}
	}
}

// TestP5_14AllSurviveThePower: also where the power has failed, all survivors leave what a Flush would have left.
func TestP5_14AllSurviveThePower(t *testing.T) {
	writes := []deed{{call: 'w', n: 1, x: 1}, {call: 'w', n: 0, x: 2}, {call: 'w', n: 1, x: 3}}
	failed, flushed := device.New(2), device.New(2)
	for _, s := range writes {
		s.on(failed)
		s.on(flushed)
	}
	failed.Arm(1)
	is(t, "Flush of the armed device", failed.Flush(), api.ErrPower)
	is(t, "Flush of the other one", flushed.Flush(), api.OK)
	failed.Crash([]bool{true, true, true})
	if x, y := string(failed.Durable()), string(flushed.Durable()); x != y || x != fullText(2)+fullText(3) {
		t.Errorf("Crash with all leaves %s, Flush %s", short(x), short(y))
	}
}
