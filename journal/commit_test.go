package journal_test

import (
	"fmt"
	"testing"

	"annex/api"
)

// TestP7_4EachOperationOfCommit: transactions of each number of blocks, from each place of the log on.
func TestP7_4EachOperationOfCommit(t *testing.T) {
	for _, many := range []int{1, 2, 5, 24} {
		for k := 0; k <= many+5; k++ {
			p := formatted(t, 100, 3, 30)
			p.put(full(1), 0)
			p.check()
			p.begin()
			for i := range many {
				p.write(99-i, full(byte(i+2)))
			}
			p.arm(k)
			code := p.commit()
			p.is(fmt.Sprintf("%d blocks, Arm(%d), Commit", many, k), code == api.OK, k == 0 || k > many+4)
			if code != api.OK {
				p.is("Commit", code, api.ErrPower)
				p.state(0, 0, 0)
			}
		}
	}
}

// TestP7_4EachOperationOfACommitThatChecksFirst: 26 places of 29 are taken by 24 blocks; 2 blocks are 4 places.
func TestP7_4EachOperationOfACommitThatChecksFirst(t *testing.T) {
	for k := 0; k <= 36; k++ {
		p := formatted(t, 100, 0, 30)
		p.put(full(1), upTo(40, 64)...)
		p.begin()
		p.write(41, full(2))
		p.write(99, full(2))
		p.arm(k)
		code := p.commit()
		p.is(fmt.Sprintf("Arm(%d), Commit", k), code == api.OK, k == 0 || k > 24+3+6)
	}
}

// TestP7_4WhenACheckpointComesFirst: just if less than k + 2 places are free.
func TestP7_4WhenACheckpointComesFirst(t *testing.T) {
	for _, size := range []int{27, 28, 29, 33, 40} {
		for _, a := range []int{1, 10, 24} {
			for b := 1; b <= 24; b++ {
				p := formatted(t, 100, 0, size)
				p.put(full(1), upTo(40, 40+a)...)
				p.put(full(2), upTo(64, 64+b)...)
				free, away := size-1-a-2-b-2, a+b
				if free < 0 {
					free, away = size-1-b-2, b
				}
				p.state(3, free, away)
			}
		}
	}
}

// TestP7_4RoundAndRound: each transaction begins behind the one ahead of it, over and over the log's end.
func TestP7_4RoundAndRound(t *testing.T) {
	p := formatted(t, 60, 5, 27)
	for i := range 100 {
		p.put(full(byte(i)), upTo(32, 32+1+i%7)...)
		p.is("Seq", p.w.seq, i+2)
		if i%13 == 5 {
			p.check()
		}
		if i%17 == 3 {
			p.open()
		}
	}
}

func TestP7_4NothingWritten(t *testing.T) {
	p := using(t)
	p.back(1)
	p.arm(1)
	p.is("Commit of what was undone", p.commit(), api.OK)
	p.begin()
	p.is("Seq", p.x.Seq(), 2)
	p.read(0)
	p.is("Commit of nothing", p.commit(), api.OK)
	p.is("Power", p.d.Power(), true)
	p.state(2, 25, 2)
	p.begin()
	p.fails()
	p.is("Commit of nothing without power", p.commit(), api.ErrPower)
	p.state(0, 0, 0)
}

// TestP7_4WhatIsThereAlready: a block that is written with what it has is written.
func TestP7_4WhatIsThereAlready(t *testing.T) {
	p := formatted(t, 40, 2, 30)
	p.put(noise(40)[:512], 0)
	p.state(2, 26, 1)
	p.put(noise(40)[:512], 0)
	p.state(3, 23, 1)
}

func TestP7_4TheLastSeq(t *testing.T) {
	p, _, _ := opened(t, made(headByWords(lastSeq, 3), 3))
	p.is("Commit with the last seq", p.put(full(1), 0, 39), api.OK)
	p.state(lastSeq+1, 25, 2)
	for range 2 {
		p.arm(1)
		p.begin()
		p.is("Seq", p.x.Seq(), lastSeq+1)
		p.is("Commit of nothing", p.commit(), api.OK)
		p.is("Commit", p.put(full(2), 0), api.ErrSeqs)
		p.is("then", p.commit(), api.ErrEnded)
		p.is("Power", p.d.Power(), true)
		p.arm(0)
	}
	p.state(lastSeq+1, 25, 2)
	p.is("Check", p.check(), api.OK)
	p.state(lastSeq+1, 29, 0)
	taken, code := p.open()
	p.is("Open", []any{taken, code}, []any{0, api.OK})
	p.begin()
	p.write(0, full(3))
	p.fails()
	p.is("ErrPower comes ahead of ErrSeqs", p.commit(), api.ErrPower)
}

// TestP7_4Flags: blocks that begin like the log's own, and nearly so.
func TestP7_4Flags(t *testing.T) {
	for i, s := range []string{"ANXD", "ANXC", "ANXH", "ANXE", "ANX", "BNXD", "AOXC", "\x00\x00\x00\x00", "\x00NXD", "ANXDANXD", "ANXCANXC"} {
		p := formatted(t, 40, 2, 30)
		p.begin()
		p.write(39, full(1))
		p.write(1, starting(s))
		p.commit()
		desc, block := p.d.Durable()[3*512:], p.d.Durable()[4*512:]
		flag := map[int]byte{0: 1, 1: 2, 9: 1, 10: 2}[i]
		p.is("the flag", []byte{desc[20], desc[21], desc[22], desc[23]}, []byte{0, 0, 0, flag})
		want := starting(s)
		if flag > 0 {
			copy(want, "\x00\x00\x00\x00")
		}
		p.is("the block in the log", string(block[:512]), string(want))
		p.begin()
		data, _ := p.read(1)
		p.is("Read", string(data), string(starting(s)))
		p.crash(nil)
		taken, _ := p.open()
		p.is("taken", taken, 1)
		p.begin()
		data, _ = p.read(1)
		p.is("Read behind a crash", string(data), string(starting(s)))
	}
}

func TestP7_5EachOperationOfACheckpoint(t *testing.T) {
	for k := 0; k <= 9; k++ {
		p := formatted(t, 40, 2, 30)
		p.put(full(1), 38, 0)
		p.put(full(2), 39, 1, 38)
		p.arm(k)
		code := p.check()
		p.is(fmt.Sprintf("Arm(%d), Check", k), code == api.OK, k == 0 || k > 4+3)
		if code != api.OK {
			p.is("Check", code, api.ErrPower)
			p.state(0, 0, 0)
		}
	}
}

func TestP7_5NothingIsNotHome(t *testing.T) {
	p := formatted(t, 40, 2, 30)
	p.arm(1)
	p.is("Check", p.check(), api.OK)
	p.begin()
	p.write(0, full(1))
	p.is("Check", p.check(), api.OK)
	p.is("Power", p.d.Power(), true)
	p.arm(0)
	p.commit()
	p.check()
	p.arm(1)
	p.is("Check", p.check(), api.OK)
	p.is("Power", p.d.Power(), true)
}

func TestP7_5TheHeadGoesRound(t *testing.T) {
	p := formatted(t, 40, 2, 30)
	place := 0
	for i := range 40 {
		p.put(full(byte(i)), outside()[:1+i%9]...)
		place = (place + 3 + i%9) % 29
		p.check()
		p.is("the head", string(p.d.Durable()[2*512:3*512]), string(headByWords(i+2, place)))
	}
}

// TestP7_6CheckWhileATransactionIsOpen: it sees nothing of it.
func TestP7_6CheckWhileATransactionIsOpen(t *testing.T) {
	p := using(t)
	p.is("Check", p.check(), api.OK)
	p.state(2, 29, 0)
	p.is("Blocks", p.x.Blocks(), []int{0})
	data, _ := p.read(0)
	p.is("Read(0)", data[0], 2)
	p.is("what is home", p.d.Durable()[0], 1)
	p.is("Back", p.back(1), api.OK)
	data, _ = p.read(0)
	p.is("Read(0)", data[0], 1)
	p.write(1, full(7))
	p.is("Commit", p.commit(), api.OK)
	p.state(3, 26, 1)
}

func TestP7_6CheckWithoutPower(t *testing.T) {
	for _, away := range []bool{false, true} {
		for _, open := range []bool{false, true} {
			p := formatted(t, 40, 2, 30)
			if away {
				p.put(full(1), 0)
			}
			if open {
				p.begin()
			}
			p.fails()
			p.is("Check", p.check(), api.ErrPower)
			p.is("Check", p.check(), api.ErrEnded)
			p.is("Begin", p.begin(), false)
			p.state(0, 0, 0)
		}
	}
}

func TestP7_7State(t *testing.T) {
	p := formatted(t, 100, 2, 40)
	p.state(1, 39, 0)
	p.begin()
	p.write(0, full(1))
	p.state(1, 39, 0)
	p.commit()
	p.state(2, 36, 1)
	p.put(full(2), 0, 1)
	p.state(3, 32, 2)
	p.put(full(3), upTo(60, 65)...)
	p.state(4, 25, 7)
	p.begin()
	p.write(99, full(3))
	p.fails()
	for range 3 {
		p.state(4, 25, 7)
	}
	p.drop()
	p.state(4, 25, 7)
	p.begin()
	p.state(0, 0, 0)
}
