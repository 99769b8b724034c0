package journal_test

import (
	"bytes"
	"slices"
	"testing"

	"annex/api"
	"annex/device"
	"annex/journal"
)

func plain(t *testing.T) (*device.Device, *journal.Journal) {
	t.Helper()
	d := device.New(40)
	journal.Format(d, 2, 30)
	j, _, code := journal.Open(d, 2, 30)
	if code != api.OK {
		t.Fatalf("Open: %d", code)
	}
	return d, j
}

// spoil writes over a list and its spare room.
func spoil(b []byte) {
	b = b[:cap(b)]
	for i := range b {
		b[i] = 0xee
	}
}

func reads(t *testing.T, x *journal.Tx, b int, want []byte) []byte {
	t.Helper()
	got, code := x.Read(b)
	if code != api.OK || !bytes.Equal(got, want) {
		t.Fatalf("Read(%d): %s, %d, want %s", b, short(got), code, short(want))
	}
	return got
}

func TestP7_8WhatIsHandedInIsNotChanged(t *testing.T) {
	for _, s := range []string{"ANXD", "ANXC", "abcd"} {
		_, j := plain(t)
		room := bytes.Repeat([]byte{'r'}, 1024)
		copy(room, starting(s))
		ahead := slices.Clone(room)
		x := j.Begin()
		x.Write(0, room[:512])
		x.Save()
		x.Write(0, room[:512:512])
		x.Read(0)
		x.Back(1)
		x.Commit()
		j.Check()
		if !bytes.Equal(room, ahead) {
			t.Errorf("%q: the bytes handed in were changed", s)
		}
	}
}

func TestP7_8WhatIsHandedInIsNotKept(t *testing.T) {
	d, j := plain(t)
	x := j.Begin()
	data := starting("ANXD")
	x.Write(0, data)
	spoil(data)
	reads(t, x, 0, starting("ANXD"))
	x.Commit()
	x = j.Begin()
	reads(t, x, 0, starting("ANXD"))
	j.Check()
	if !bytes.Equal(d.Durable()[:512], starting("ANXD")) {
		t.Error("what is home was changed by the one who handed it in")
	}
}

// TestP7_8WhatReadAnswersIsNewMemory: of a block that was written, committed, or is home.
func TestP7_8WhatReadAnswersIsNewMemory(t *testing.T) {
	d, j := plain(t)
	for round := range 3 {
		x := j.Begin()
		x.Write(0, full(1))
		x.Save()
		x.Write(0, full(2))
		for range 2 {
			spoil(reads(t, x, 0, full(2)))
		}
		x.Back(1)
		for range 2 {
			spoil(reads(t, x, 0, full(1)))
		}
		x.Back(1)
		reads(t, x, 0, full(1))
		x.Commit()
		x = j.Begin()
		for range 2 {
			spoil(reads(t, x, 0, full(1)))
			spoil(reads(t, x, 39, make([]byte, 512)))
		}
		x.Drop()
		if round == 1 {
			j.Check()
			if !bytes.Equal(d.Durable()[:512], full(1)) {
				t.Error("what is home was changed through what Read answered")
			}
		}
	}
}

func TestP7_8AnswersShareNothing(t *testing.T) {
	_, j := plain(t)
	x := j.Begin()
	x.Write(0, full(1))
	x.Write(1, full(2))
	var lists [][]byte
	for _, b := range []int{0, 1, 39, 0, 1, 39} {
		lists = append(lists, reads(t, x, b, [][]byte{0: full(1), 1: full(2), 39: make([]byte, 512)}[b]))
	}
	for i, a := range lists {
		spoil(a)
		_ = append(a, 0xdd)
		for k, b := range lists {
			if k > i && b[0] == 0xee {
				t.Errorf("the answers %d and %d share memory", i, k)
			}
		}
	}
}

func TestP7_8WhatBlocksAnswersIsNewMemory(t *testing.T) {
	_, j := plain(t)
	x := j.Begin()
	for _, b := range []int{39, 0, 33} {
		x.Write(b, full(1))
	}
	a, b := x.Blocks(), x.Blocks()
	a = a[:cap(a)]
	for i := range a {
		a[i] = -7
	}
	_ = append(x.Blocks(), 5)
	if want := []int{0, 33, 39}; !slices.Equal(b, want) || !slices.Equal(x.Blocks(), want) {
		t.Errorf("Blocks: %v, then %v", b, x.Blocks())
	}
	if x.Commit() != api.OK {
		t.Error("Commit failed")
	}
}

// TestP7_8ASavepointIsNoView: what is written behind it, and behind a Back to it, does not come into it.
func TestP7_8ASavepointIsNoView(t *testing.T) {
	_, j := plain(t)
	x := j.Begin()
	x.Write(0, full(1))
	x.Save()
	x.Save()
	for i := range 3 {
		x.Write(0, full(byte(10+i)))
		x.Write(1, full(byte(10+i)))
		x.Back(2)
		reads(t, x, 0, full(1))
		reads(t, x, 1, make([]byte, 512))
	}
	x.Write(0, full(9))
	x.Back(1)
	reads(t, x, 0, full(1))
}
