package plan_test

import (
	"bytes"
	"testing"

	"annex/api"
	"annex/plan"
)

// spoil writes over a list and its spare room.
func spoil(list []byte) {
	list = list[:cap(list)]
	for i := range list {
		list[i] = 0xee
	}
}

func TestP6_5WhatIsHandedInIsNotChanged(t *testing.T) {
	good, bent := blockOf(small), blockOf(small)
	bent[9]++
	for _, block := range [][]byte{good, bent, make([]byte, 512)} {
		room := bytes.Repeat([]byte{0x77}, 1024)
		copy(room, block)
		was := bytes.Clone(room)
		for _, n := range []int{0, 4, 36, 44, 511, 512, 513} {
			plan.ReadSuper(room[:n])
		}
		if !bytes.Equal(room, was) {
			t.Error("a block that was handed in, or its spare room, has changed")
		}
	}
}

// TestP6_5NothingIsKept: what is done to a block behind a call shows in no other call.
func TestP6_5NothingIsKept(t *testing.T) {
	b := blockOf(small)
	plan.ReadSuper(b)
	spoil(b)
	readIs(t, "a spoilt block", b, api.ErrSuper)
	if s, code := plan.ReadSuper(blockOf(small)); s != small || code != api.OK {
		t.Errorf("ReadSuper = %v, %d", s, code)
	}
}

func TestP6_5BlocksAreNewMemory(t *testing.T) {
	first, second := written(t, small), written(t, small)
	spoil(first)
	third := written(t, small)
	for _, b := range [][]byte{second, third} {
		if !bytes.Equal(b, blockOf(small)) {
			t.Errorf("a block shows what was written into another one: %x", b[:48])
		}
	}
	long := append(second, 1, 2, 3)
	spoil(long)
	if !bytes.Equal(written(t, small), blockOf(small)) || !bytes.Equal(third, blockOf(small)) {
		t.Error("a block shows what was appended to another one")
	}
}
