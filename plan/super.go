package plan

import (
	"math"

	"annex/api"
	"annex/bits"
	"annex/sum"
)

// What a superblock begins with.
const magic = "ANXS"

const (
	headLen  = len(magic) + 4*numbersLen // what the sum is of
	superLen = headLen + 8               // with the sum
)

func block(s api.Shape) []byte {
	b := []byte(magic)
	for _, n := range numbers(s) {
		b = bits.Put32(b, n)
	}
	b = bits.PutSum(b, sum.Sum(b))
	out := make([]byte, api.BlockSize)
	copy(out, b)
	return out
}

// The functions below are for bytes that are at least as long as what they look at.

func begins(b []byte) bool { return string(b[:len(magic)]) == magic }

func summed(b []byte) bool {
	return bits.NewReader(b[headLen:superLen]).Sum() == sum.Sum(b[:headLen])
}

// said takes every number that four bytes can say: which of them may be in a shape is Plan's to judge.
func said(b []byte) api.Shape {
	r := bits.NewReader(b[len(magic):headLen])
	var n [numbersLen]int
	for i := range n {
		n[i] = r.U32(math.MaxUint32)
	}
	return shapeOf(n)
}

func zeros(b []byte) bool {
	for _, x := range b {
		if x != 0 {
			return false
		}
	}
	return true
}
