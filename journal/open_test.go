package journal_test

import (
	"encoding/binary"
	"fmt"
	"hash/fnv"
	"math"
	"testing"

	"annex/api"
)

// made is the image of a device of 40 blocks with a journal in the blocks 2 to 31, by hand: its head, and blocks of the log from a place on.
func made(head []byte, place int, log ...[]byte) []byte {
	image := noise(40)
	copy(image[2*512:], head)
	for i := range 29 {
		copy(image[(3+i)*512:(4+i)*512], padded())
	}
	for i, b := range log {
		at := 3 + (place+i)%29
		copy(image[at*512:(at+1)*512], b)
	}
	return image
}

// opened opens an image and says how many were taken.
func opened(t *testing.T, image []byte) (*pair, int, api.Errno) {
	t.Helper()
	p := pairOf(t, image, 2, 30)
	taken, code := p.open()
	return p, taken, code
}

func takes(t *testing.T, what string, image []byte, want int) {
	t.Helper()
	if _, taken, code := opened(t, image); taken != want || code != api.OK {
		t.Errorf("%s: taken %d, %d, want %d", what, taken, code, want)
	}
}

func summedHead(head []byte) []byte {
	f := fnv.New64a()
	f.Write(head[:20])
	binary.BigEndian.PutUint64(head[20:], f.Sum64())
	return head
}

func TestP7_2EachByteOfTheHead(t *testing.T) {
	for i := range 512 {
		head := headByWords(0x0102030405060708, 9)
		head[i] ^= 0x10
		_, _, code := opened(t, made(head, 0))
		want := api.OK
		if i < 28 {
			want = api.ErrHeadless
		}
		if code != want {
			t.Errorf("byte %d changed: Open: %d, want %d", i, code, want)
		}
	}
}

func TestP7_2BytesOfTheHeadThatAreNotLookedAt(t *testing.T) {
	for i := range 20 {
		head := headByWords(0x0102030405060708, 9)
		head[i] ^= 0x04
		p, _, code := opened(t, made(summedHead(head), 0))
		switch {
		case i < 4:
			p.is("Open of a head with another mark", code, api.ErrHeadless)
		case i < 8:
			p.is("Open of a head with another second number", code, api.OK)
			p.state(0x0102030405060708, 29, 0)
		}
	}
}

func TestP7_2NumbersOfTheHead(t *testing.T) {
	for _, seq := range []uint64{0, 1, 2, lastSeq - 1, lastSeq, lastSeq + 1, lastSeq + 2, 1 << 63, 1<<63 + 1, math.MaxUint64, math.MaxInt64} {
		for _, place := range []int{0, 1, 27, 28, 29, 30, 1 << 31, 1<<32 - 1} {
			_, _, code := opened(t, made(headByWords(int(seq), place), 0))
			want := api.OK
			if seq < 1 || seq > 1<<62+1 || place > 28 {
				want = api.ErrHeadless
			}
			if code != want {
				t.Errorf("a head with the seq %d and the place %d: %d, want %d", seq, place, code, want)
			}
		}
	}
}

func TestP7_2OrderOfErrors(t *testing.T) {
	for _, head := range [][]byte{headByWords(1, 0), padded("ANXH")} {
		p := pairOf(t, made(head, 0), 2, 30)
		p.fails()
		_, code := p.open()
		p.is("Open with the power off", code, api.ErrPower)
		p.start = -1
		_, code = p.open()
		p.is("Open of a wrong region with the power off", code, api.ErrRegion)
	}
}

func TestP7_2OpenWithoutATransaction(t *testing.T) {
	for _, log := range [][][]byte{nil, {full(0xff)}, {padded("ANXD")}, {padded("ANXD"), padded("ANXC")}, {commitByWords(5)}} {
		p, taken, code := opened(t, made(headByWords(5, 7), 7, log...))
		p.is("Open", []any{taken, code}, []any{0, api.OK})
		p.state(5, 29, 0)
		p.arm(1)
		p.open()
		p.is("the power behind an Open that took nothing", p.d.Power(), true)
	}
}

// two is a transaction of two blocks with the seq 5.
func two() [][]byte { return loggedByWords(5, []put{{1, full('a')}, {33, full('b')}}) }

func changed(log [][]byte, block, at int, x ...byte) [][]byte {
	copy(log[block][at:], x)
	return log
}

func TestP7_2EachByteOfADescriptor(t *testing.T) {
	for i := range 64 {
		for _, x := range []byte{0, 1, 2, 3, 40, 0x80, 0xff} {
			_, taken, _ := opened(t, made(headByWords(5, 7), 7, changed(two(), 0, i, x)...))
			if i >= 32 && taken != 1 {
				t.Errorf("byte %d of the descriptor is not said, and was looked at", i)
			}
		}
	}
}

func TestP7_2EachByteOfACommit(t *testing.T) {
	for i := range 512 {
		log := two()
		log[3][i] ^= 0x40
		want := 1
		if i < 4 || 8 <= i && i < 16 {
			want = 0
		}
		takes(t, fmt.Sprintf("byte %d of the commit changed", i), made(headByWords(5, 7), 7, log...), want)
	}
}

func TestP7_2DescriptorsThatAreNotRight(t *testing.T) {
	image := func(log [][]byte) []byte { return made(headByWords(5, 7), 7, log...) }
	takes(t, "a transaction", image(two()), 1)
	takes(t, "no block", image(changed(two(), 0, 7, 0)), 0)
	takes(t, "no block, and a commit behind it", image([][]byte{padded("ANXD", uint32(0), uint64(5)), commitByWords(5)}), 0)
	takes(t, "another seq", image(changed(two(), 0, 15, 4)), 0)
	takes(t, "a seq with all ones", image(changed(two(), 0, 8, 0xff, 0xff, 0xff, 0xff, 0xff, 0xff, 0xff, 0xff)), 0)
	takes(t, "a mark of a commit", image(changed(two(), 0, 3, 'C')), 0)
	takes(t, "a mark of a head", image(changed(two(), 0, 3, 'H')), 0)
	takes(t, "one block, and no commit behind it", image(changed(two(), 0, 7, 1)), 0)
	takes(t, "a commit with a descriptor's mark", image(changed(two(), 3, 3, 'D')), 0)
	takes(t, "a commit's seq with all ones", image(changed(two(), 3, 8, 0xff, 0xff, 0xff, 0xff, 0xff, 0xff, 0xff, 0xff)), 0)
	for b, want := range map[uint32]int{0: 0, 1: 0, 2: 0, 3: 0, 31: 0, 32: 1, 33: 1, 39: 1, 40: 0, 41: 0, 1 << 31: 0, 1<<31 + 33: 0, math.MaxUint32: 0} {
		log := two()
		binary.BigEndian.PutUint32(log[0][24:], b)
		takes(t, fmt.Sprint("1 and ", b), image(log), want)
	}
	for b, want := range map[uint32]int{0: 1, 1: 1, 2: 0, 20: 0, 31: 0, 32: 1, 33: 0, 34: 0, 40: 0} {
		log := two()
		binary.BigEndian.PutUint32(log[0][16:], b)
		takes(t, fmt.Sprint(b, " and 33"), image(log), want)
	}
}

func TestP7_2NumbersOfBlocks(t *testing.T) {
	outside := append([]int{0, 1}, upTo(32, 60)...)
	for k := range 31 {
		p := pairOf(t, append(noise(40), noise(20)...), 2, 30)
		var puts []put
		for _, b := range outside[:k] {
			puts = append(puts, put{b, full(byte(b + 100))})
		}
		head, log := headByWords(5, 20), loggedByWords(5, puts)
		p.d.Write(2, head)
		p.e.Write(2, head)
		for i, b := range log[:min(len(log), 29)] {
			p.d.Write(3+(20+i)%29, b)
			p.e.Write(3+(20+i)%29, b)
		}
		taken, code := p.open()
		want := 0
		if 1 <= k && k <= 24 {
			want = 1
		}
		p.is(fmt.Sprint(k, " blocks: taken"), []any{taken, code}, []any{want, api.OK})
	}
}

func TestP7_2Flags(t *testing.T) {
	for flag := range uint32(6) {
		for i, begin := range []string{"\x00\x00\x00\x00", "\x00\x00\x00\x01", "\x01\x00\x00\x00", "\x00\x80\x00\x00", "\x00\x00\xff\x00", "ANXD", "ANXC", "abcd"} {
			for block := range 2 {
				log := changed(two(), block+1, 0, []byte(begin)...)
				binary.BigEndian.PutUint32(log[0][20+8*block:], flag)
				p, taken, _ := opened(t, made(headByWords(5, 7), 7, log...))
				want := 0
				if flag == 0 || flag <= 2 && i == 0 {
					want = 1
				}
				p.is(fmt.Sprintf("flag %d of a block that begins with %q: taken", flag, begin), taken, want)
				if want == 0 {
					continue
				}
				home := p.d.Durable()[[]int{1, 33}[block]*512:][:4]
				p.is("what is home", string(home), []string{begin, "ANXD", "ANXC"}[flag])
			}
		}
	}
	wide := two()
	binary.BigEndian.PutUint32(wide[0][20:], math.MaxUint32)
	takes(t, "the flag 2^32 - 1", made(headByWords(5, 7), 7, wide...), 0)
}

// chain is transactions one behind the other, with so many blocks.
func chain(seq int, many ...int) [][]byte {
	var log [][]byte
	for i, k := range many {
		var puts []put
		for b := range k {
			puts = append(puts, put{32 + b, full(byte(16*i + b + 1))})
		}
		log = append(log, loggedByWords(seq+i, puts)...)
	}
	return log
}

func TestP7_2TheNewestContentsStay(t *testing.T) {
	for place := range 29 {
		p, taken, _ := opened(t, made(headByWords(5, place), place, chain(5, 3, 1, 2, 1)...))
		p.is("taken", taken, 4)
		lasting := p.d.Durable()
		p.is("what is home", []byte{lasting[32*512], lasting[33*512], lasting[34*512]}, []byte{49, 34, 3})
		p.is("the head", string(lasting[2*512:3*512]), string(headByWords(9, (place+15)%29)))
		p.state(9, 29, 0)
	}
}

func TestP7_2TransactionsOutOfTurn(t *testing.T) {
	image := func(seqs ...int) []byte {
		var log [][]byte
		for _, seq := range seqs {
			log = append(log, loggedByWords(seq, []put{{1, full(byte(seq))}})...)
		}
		return made(headByWords(5, 0), 0, log...)
	}
	takes(t, "5 6 7", image(5, 6, 7), 3)
	takes(t, "5 6 8", image(5, 6, 8), 2)
	takes(t, "5 5 6", image(5, 5, 6), 1)
	takes(t, "6 5", image(6, 5), 0)
	takes(t, "4 5", image(4, 5), 0)
	takes(t, "5 4", image(5, 4), 1)
}

// TestP7_2PlacesThatWereReadAlready: the log has 29 places.
func TestP7_2PlacesThatWereReadAlready(t *testing.T) {
	for _, c := range []struct {
		many []int
		want int
	}{
		{[]int{8, 8, 1, 1, 1}, 5},
		{[]int{1, 1, 1, 1, 1, 1, 1, 1, 1}, 9},
		{[]int{8, 6, 7}, 3},
		{[]int{8, 6, 6}, 3},
		{[]int{8, 8, 7}, 3},
		{[]int{8, 8, 6}, 3},
		{[]int{8, 8, 5}, 3},
	} {
		log := chain(5, c.many...)
		if len(log) > 29 {
			t.Fatalf("%v is too long", c.many)
		}
		for _, place := range []int{0, 1, 17, 28} {
			takes(t, fmt.Sprint(c.many, " from ", place), made(headByWords(5, place), place, log...), c.want)
		}
	}
}

// TestP7_2ThreePlacesAtLeast: a transaction at the log's last places, of one block, that goes round into places that were read: its block is the first one's descriptor, and the first one's first block looks like its commit.
func TestP7_2ThreePlacesAtLeast(t *testing.T) {
	for _, left := range []int{1, 3, 4} {
		log := append(chain(5, 8, 8, 29-20-left-2), make([][]byte, left)...)
		for i, b := range loggedByWords(8, []put{{32, full('z')}}) {
			if at := (29 - left + i) % 29; at > 0 {
				log[at] = b
			}
		}
		want := 4
		if left < 3 {
			want = 3
		}
		takes(t, fmt.Sprint(left, " places left"), made(headByWords(5, 0), 0, log...), want)
	}
}

// TestP7_2AWholeOneThatIsTooLong: the second descriptor, and its commit, stand where the first transaction's blocks stand.
func TestP7_2AWholeOneThatIsTooLong(t *testing.T) {
	for k := 1; k <= 6; k++ {
		// Places 0 to 25 hold a transaction of 24 blocks; the second one begins at 26, has three places left, and goes round.
		var puts []put
		image := append(made(headByWords(5, 0), 0), noise(20)...)
		for b := range 24 {
			puts = append(puts, put{32 + b, full(byte(b + 1))})
		}
		log := loggedByWords(5, puts)
		var over []put
		for b := range k {
			over = append(over, put{32 + b, full('o')})
		}
		second := loggedByWords(6, over)
		// A block of the first one may look like a commit by hand alone: nothing forbids it where its flag is 0.
		for i, b := range second {
			if i > 2 {
				log[(26+i)%29] = b
			}
		}
		log = append(log, second[:3]...)
		log[0] = loggedByWords(5, puts)[0]
		for i, b := range log {
			copy(image[(3+i)*512:], b)
		}
		p := pairOf(t, image, 2, 30)
		taken, _ := p.open()
		want := 1
		if k == 1 {
			want = 2
		}
		p.is(fmt.Sprint(k, " blocks: taken"), taken, want)
	}
}

func TestP7_2TheLastSeq(t *testing.T) {
	for _, c := range []struct{ seq, many, want int }{{lastSeq - 2, 3, 3}, {lastSeq - 1, 3, 2}, {lastSeq, 3, 1}, {lastSeq + 1, 3, 0}} {
		log := chain(c.seq, 1, 1, 1)
		p, taken, _ := opened(t, made(headByWords(c.seq, 3), 3, log...))
		p.is("taken", taken, c.want)
		p.state(c.seq+c.want, 29, 0)
		again, code := p.open()
		p.is("Open again", []any{again, code}, []any{0, api.OK})
	}
}

func TestP7_2EachOperationOfOpen(t *testing.T) {
	for k := 0; k <= 8; k++ {
		p := pairOf(t, made(headByWords(5, 7), 7, chain(5, 3, 1, 2)...), 2, 30)
		p.arm(k)
		taken, code := p.open()
		want := []any{3, api.OK}
		if 1 <= k && k <= 6 {
			want = []any{0, api.ErrPower}
		}
		p.is(fmt.Sprintf("Arm(%d), Open", k), []any{taken, code}, want)
	}
}

// TestP7_2WhatPendsIsRead: Open takes a log that pends, too.
func TestP7_2WhatPendsIsRead(t *testing.T) {
	p := pairOf(t, made(headByWords(5, 7), 7), 2, 30)
	for i, b := range two() {
		p.d.Write(3+7+i, b)
		p.e.Write(3+7+i, b)
	}
	taken, _ := p.open()
	p.is("taken", taken, 1)
}
