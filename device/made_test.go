package device_test

import (
	"math"
	"strings"
	"testing"

	"annex/api"
	"annex/device"
)

func TestP5_1NewIsZerosAllLastingAndOn(t *testing.T) {
	for _, n := range []int{1, 2, 3, 64, 4095, 4096} {
		d := device.New(n)
		if d == nil {
			t.Fatalf("New(%d) is nil", n)
		}
		sameState(t, d, toldOf(strings.Repeat("\x00", 512*n)))
	}
}

func TestP5_1NewIsNotArmed(t *testing.T) {
	d := device.New(1)
	for range 100 {
		is(t, "Write on a new device", d.Write(0, full(1)), api.OK)
		is(t, "Flush on a new device", d.Flush(), api.OK)
	}
}

func TestP5_1NewOfNoSuchSizeIsNil(t *testing.T) {
	for _, n := range []int{0, -1, -2, -4096, 4097, 8192, 1 << 32, 1<<55 + 1, 1 << 55, math.MaxInt, math.MinInt} {
		if device.New(n) != nil {
			t.Errorf("New(%d) is a device", n)
		}
	}
}

func TestP5_1TwoDevicesAreTwo(t *testing.T) {
	one, two := device.New(2), device.New(2)
	one.Write(0, full(1))
	one.Flush()
	one.Write(1, full(2))
	one.Arm(1)
	one.Flush()
	sameState(t, two, toldOf(strings.Repeat("\x00", 1024)))
	is(t, "Flush of the other device", two.Flush(), api.OK)
}

func TestP5_2ImageHoldsItsBytes(t *testing.T) {
	for _, n := range []int{1, 2, 3, 255, 256, 257, 4095, 4096} {
		data := counted(n)
		sameState(t, imageOf(t, data), toldOf(string(data)))
	}
}

func TestP5_2ImageIsNotArmed(t *testing.T) {
	d := imageOf(t, counted(1))
	for range 100 {
		is(t, "Write on an image", d.Write(0, full(1)), api.OK)
		is(t, "Flush on an image", d.Flush(), api.OK)
	}
}

func TestP5_2ImageOfNoSuchLength(t *testing.T) {
	const most = 512 * 4096
	wrong := []int{0, most - 511, most - 1, most + 1, most + 511, most + 512, most + 513, 2 * most, 2*most + 1}
	for n := range 2000 {
		if n%512 != 0 {
			wrong = append(wrong, n)
		}
	}
	for _, n := range wrong {
		if d, e := device.Image(make([]byte, n)); d != nil || e != api.ErrImage {
			t.Errorf("Image of %d bytes: a device %v, %d", n, d != nil, e)
		}
	}
	if d, e := device.Image(nil); d != nil || e != api.ErrImage {
		t.Errorf("Image of nil: a device %v, %d", d != nil, e)
	}
}

func TestP5_2SpareRoomIsNoPartOfAnImage(t *testing.T) {
	data := counted(3)
	if d := imageOf(t, data[:1024]); d.Size() != 2 || string(d.Durable()) != string(data[:1024]) {
		t.Errorf("Image of 1024 bytes with spare room has %d blocks", d.Size())
	}
	if d, e := device.Image(data[:511]); d != nil || e != api.ErrImage {
		t.Errorf("Image of 511 bytes with spare room: a device %v, %d", d != nil, e)
	}
}

func TestP5_3SizeNeverChanges(t *testing.T) {
	d := device.New(3)
	size := func(when string) {
		t.Helper()
		if d.Size() != 3 {
			t.Errorf("Size %s is %d", when, d.Size())
		}
	}
	size("at first")
	d.Write(2, full(1))
	d.Write(3, full(1))
	size("behind a Write")
	d.Flush()
	size("behind a Flush")
	d.Arm(1)
	d.Flush()
	size("with the power off")
	d.Crash(nil)
	size("behind a Crash")
}
