// Package bits: fields of bytes: see ../shared/doc/01-bits.md.
package bits

const (
	narrow = 4 // bytes of a small number, a flag, a text's length
	wide   = 8 // bytes of a great number, a sum
)

// Put32 lays a number of 4 bytes behind b.
func Put32(b []byte, x int) []byte { return appendNumber(roomBehind(b, narrow), uint64(x), narrow) }

// Put64 lays a number of 8 bytes behind b.
func Put64(b []byte, x int) []byte { return PutSum(b, uint64(x)) }

// PutSum lays a sum of 8 bytes behind b.
func PutSum(b []byte, s uint64) []byte { return appendNumber(roomBehind(b, wide), s, wide) }

// PutText lays a text behind b.
func PutText(b []byte, s string) []byte { return PutBytes(b, []byte(s)) }

// PutBytes lays bytes behind b as a text is laid.
func PutBytes(b, d []byte) []byte {
	n := uint64(len(d))
	pad := padding(n)
	out := roomBehind(b, narrow+len(d)+int(pad))
	out = appendNumber(out, n, narrow)
	out = append(out, d...)
	return append(out, make([]byte, pad)...)
}

// roomBehind copies b even where b has spare room of its own: that room is the caller's, and appending would write into it.
func roomBehind(b []byte, n int) []byte {
	return append(make([]byte, 0, len(b)+n), b...)
}

func appendNumber(b []byte, x uint64, size int) []byte {
	for i := size - 1; i >= 0; i-- {
		b = append(b, byte(x>>(8*i)))
	}
	return b
}

// padding counts from the length of the text alone: a field need not begin at a multiple of four.
func padding(n uint64) uint64 { return (4 - n%4) % 4 }
