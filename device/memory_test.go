package device_test

import (
	"bytes"
	"slices"
	"testing"

	"annex/api"
	"annex/device"
)

// spoil writes over a list and its spare room.
func spoil(list []byte) {
	list = list[:cap(list)]
	for i := range list {
		list[i] = 0xee
	}
}

func spoilPending(list []api.Pending) {
	for _, p := range list {
		spoil(p.Data)
	}
	list = list[:cap(list)]
	for i := range list {
		list[i] = api.Pending{Block: 77, Data: []byte("spoilt")}
	}
}

// spoilAnswers asks for all that can be asked, and writes over it.
func spoilAnswers(d *device.Device) {
	spoil(d.Durable())
	spoilPending(d.Pending())
	for b := range d.Size() {
		data, _ := d.Read(b)
		spoil(data)
	}
}

func TestP5_12WhatIsHandedInIsNotChanged(t *testing.T) {
	room := counted(4)
	was := slices.Clone(room)
	d, _ := device.Image(room[:1024])
	d.Write(0, room[1024:1536])
	d.Write(1, room[:512])
	d.Write(1, room[:511])
	d.Flush()
	d.Write(0, room[1:513])
	keeps := []bool{true, false, true, false}
	d.Crash(keeps[:2])
	d.Write(1, full(1))
	d.Flush()
	spoilAnswers(d)
	if !bytes.Equal(room, was) {
		t.Error("bytes that were handed in, or their spare room, have changed")
	}
	if !slices.Equal(keeps, []bool{true, false, true, false}) {
		t.Errorf("a list of survivors has changed to %v", keeps)
	}
}

func TestP5_12WhatIsHandedInIsNotKept(t *testing.T) {
	data := counted(2)
	w := toldOf(string(data))
	d := imageOf(t, data)
	spoil(data)
	sameState(t, d, w)
	one := full(1)
	d.Write(1, one)
	w.write(1, fullText(1))
	spoil(one)
	sameState(t, d, w)
	two := full(2)
	d.Write(1, two)
	w.write(1, fullText(2))
	d.Flush()
	w.flush()
	spoil(two)
	sameState(t, d, w)
	three, keep := full(3), []bool{true}
	d.Write(0, three)
	w.write(0, fullText(3))
	d.Crash(keep)
	w.crash(keep)
	spoil(three)
	keep[0] = false
	sameState(t, d, w)
	d.Write(0, full(4))
	d.Crash(nil)
	sameState(t, d, w)
}

func TestP5_12WhatIsHandedOutIsNew(t *testing.T) {
	data := counted(3)
	d, w := imageOf(t, data), toldOf(string(data))
	spoilAnswers(d)
	sameState(t, d, w)
	for i, b := range []int{1, 0, 1, 1} {
		d.Write(b, full(byte(i)))
		w.write(b, fullText(byte(i)))
		spoilAnswers(d)
		sameState(t, d, w)
	}
	d.Arm(1)
	w.arm(1)
	is(t, "Flush", d.Flush(), w.flush())
	spoilAnswers(d)
	sameState(t, d, w)
	d.Crash([]bool{true, true, true})
	w.crash([]bool{true, true, true})
	spoilAnswers(d)
	sameState(t, d, w)
	d.Write(2, full(9))
	w.write(2, fullText(9))
	d.Flush()
	w.flush()
	spoilAnswers(d)
	sameState(t, d, w)
}

// TestP5_12AnswersShareNothing: what is written into one answer, or appended to it, no other answer shows, also one of an earlier call.
func TestP5_12AnswersShareNothing(t *testing.T) {
	d := imageOf(t, counted(2))
	d.Write(0, full(1))
	d.Write(0, full(1))
	block, list, all := readOf(t, d, 0), d.Pending(), d.Durable()
	lasting := readOf(t, d, 1)
	spoilAnswers(d)
	spoil(list[0].Data)
	if list[1].Block != 0 || !bytes.Equal(list[1].Data, full(1)) {
		t.Error("a piece of Pending shows what was written into another one, of the same answer or of a later one")
	}
	if !bytes.Equal(block, full(1)) {
		t.Error("a block that was read shows what was written into another answer")
	}
	if !bytes.Equal(lasting, counted(2)[512:]) {
		t.Error("a lasting block that was read shows what was written into another answer")
	}
	if !bytes.Equal(all, counted(2)) {
		t.Error("the lasting bytes show what was written into another answer")
	}
	d.Flush()
	d.Write(1, full(2))
	d.Flush()
	if !bytes.Equal(all, counted(2)) || !bytes.Equal(block, full(1)) || !bytes.Equal(lasting, counted(2)[512:]) {
		t.Error("an answer changes by a later call")
	}
}

func TestP5_12AnAnswerStaysAsItWas(t *testing.T) {
	d := device.New(1)
	d.Write(0, full(1))
	d.Write(0, full(2))
	list := d.Pending()
	d.Crash([]bool{true, true})
	d.Write(0, full(3))
	d.Write(0, full(4))
	d.Flush()
	if got := linesOf(list); !slices.Equal(got, []line{{0, fullText(1)}, {0, fullText(2)}}) {
		t.Errorf("an older Pending has become %s", shortLines(got))
	}
}

func readOf(t *testing.T, d *device.Device, b int) []byte {
	t.Helper()
	data, e := d.Read(b)
	if e != api.OK {
		t.Fatalf("Read(%d): %d", b, e)
	}
	return data
}
