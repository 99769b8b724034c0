package journal

import (
	"math"

	"annex/api"
	"annex/bits"
	"annex/sum"
)

// What the journal's own blocks begin with.
const (
	headMark       = "ANXH"
	descriptorMark = "ANXD"
	commitMark     = "ANXC"
	markLen        = 4
)

const (
	summedLen = 20            // of a head: what its sum is of
	headLen   = summedLen + 8 // with the sum
)

// The flags of a block in the log: what it began with.
const (
	asItIs = iota
	likeDescriptor
	likeCommit
	flagsLen
)

// line is what a descriptor says of one block.
type line struct{ block, flag int }

func headBlock(seq, place int) []byte {
	b := bits.Put32([]byte(headMark), 0)
	b = bits.Put64(b, seq)
	b = bits.Put32(b, place)
	return filled(bits.PutSum(b, sum.Sum(b)))
}

func descriptorBlock(seq int, lines []line) []byte {
	b := bits.Put32([]byte(descriptorMark), len(lines))
	b = bits.Put64(b, seq)
	for _, l := range lines {
		b = bits.Put32(b, l.block)
		b = bits.Put32(b, l.flag)
	}
	return filled(b)
}

func commitBlock(seq int) []byte {
	return filled(bits.Put64(bits.Put32([]byte(commitMark), 0), seq))
}

func filled(b []byte) []byte {
	out := make([]byte, api.BlockSize)
	copy(out, b)
	return out
}

// The functions below are for whole blocks.

func begins(b []byte, mark string) bool { return string(b[:markLen]) == mark }

// headOf tells a head's seq and place; false, if it is not right for a log of that many places.
func headOf(b []byte, places int) (int, int, bool) {
	r := bits.NewReader(b[markLen+4 : headLen])
	seq, place, total := r.U64(api.MaxNumber+1), r.U32(places-1), r.Sum()
	code, _ := r.Err()
	return seq, place, begins(b, headMark) && code == api.OK && seq > 0 && total == sum.Sum(b[:summedLen])
}

// linesOf tells what a descriptor says; nothing, if it is none of that seq. Whether its blocks may be is not judged.
func linesOf(b []byte, seq int) []line {
	r := bits.NewReader(b[markLen:])
	many, its := r.U32(api.MaxTx), r.U64(math.MaxInt)
	if !begins(b, descriptorMark) || its != seq {
		return nil
	}
	lines := make([]line, many)
	for i := range lines {
		lines[i] = line{r.U32(math.MaxUint32), r.U32(flagsLen - 1)}
	}
	if code, _ := r.Err(); code != api.OK {
		return nil
	}
	return lines
}

func isCommit(b []byte, seq int) bool {
	return begins(b, commitMark) && bits.NewReader(b[markLen+4:]).U64(math.MaxInt) == seq
}

func flagOf(data []byte) int {
	switch {
	case begins(data, descriptorMark):
		return likeDescriptor
	case begins(data, commitMark):
		return likeCommit
	}
	return asItIs
}

// hidden is a block as it stands in the log.
func hidden(data []byte, flag int) []byte {
	out := copied(data)
	if flag != asItIs {
		clear(out[:markLen])
	}
	return out
}

// shown is a block of the log as it was; false, if nothing that was hidden looks so.
func shown(b []byte, flag int) ([]byte, bool) {
	out := copied(b)
	switch flag {
	case likeDescriptor:
		copy(out, descriptorMark)
	case likeCommit:
		copy(out, commitMark)
	default:
		return out, true
	}
	return out, begins(b, "\x00\x00\x00\x00")
}
