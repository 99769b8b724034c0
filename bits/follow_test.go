package bits_test

import (
	"bytes"
	"fmt"
	"math"
	"slices"
	"strings"
	"testing"

	"annex/api"
	"annex/bits"
)

// field is what was written: how to lay it again, and how to read it with a bound that it keeps.
type field struct {
	put  func(b []byte) []byte
	call read
	want string
}

func field32(x int) field {
	n := x & (1<<32 - 1)
	return field{func(b []byte) []byte { return bits.Put32(b, x) }, u32(n), fmt.Sprint(n)}
}

func field64(x int) field {
	return field{func(b []byte) []byte { return bits.Put64(b, x) }, u64(x), fmt.Sprint(x)}
}

func fieldSum(s uint64) field {
	return field{func(b []byte) []byte { return bits.PutSum(b, s) }, sum(), fmt.Sprint(s)}
}

func fieldFlag(x int) field {
	return field{func(b []byte) []byte { return bits.Put32(b, x) }, flag(), fmt.Sprint(x == 1)}
}

func fieldText(s string) field {
	return field{func(b []byte) []byte { return bits.PutText(b, s) }, text(len(s)), s}
}

func fieldBytes(s string) field {
	return field{func(b []byte) []byte { return bits.PutBytes(b, []byte(s)) }, byteList(len(s)), s}
}

var kinds = []field{
	field32(0), field32(1), field32(-1), field32(1<<32 + 7), field32(math.MaxInt), field32(math.MinInt + 3),
	field64(0), field64(1 << 40), field64(math.MaxInt),
	fieldSum(0), fieldSum(math.MaxUint64), fieldSum(0xcbf29ce484222325),
	fieldFlag(0), fieldFlag(1),
	fieldText(""), fieldText("a"), fieldText("ab"), fieldText("abc"), fieldText("abcd"), fieldText(strings.Repeat("\x00", 9)),
	fieldBytes(""), fieldBytes("\x00"), fieldBytes("\xff\xff"), fieldBytes("xyz"), fieldBytes("1234"), fieldBytes(strings.Repeat("q", 300)),
}

func lay(fields []field) (b []byte, places []int) {
	for _, f := range fields {
		places = append(places, len(b))
		b = f.put(b)
	}
	return b, places
}

// checkCut: of the first n bytes just the whole fields are read, and the next one is ErrShort at its first byte.
func checkCut(t *testing.T, fields []field, b []byte, places []int, n int) {
	t.Helper()
	r := bits.NewReader(b[:n])
	for i, f := range fields {
		end := len(b)
		if i+1 < len(places) {
			end = places[i+1]
		}
		got := f.call.do(r)
		if end <= n {
			if got != f.want {
				t.Fatalf("cut at %d: %s = %q, want %q", n, f.call.name, got, f.want)
			}
			continue
		}
		if c, p := r.Err(); c != api.ErrShort || p != places[i] {
			t.Fatalf("cut at %d: %s: Err() = %d, %d, want ErrShort, %d", n, f.call.name, c, p, places[i])
		}
		checkClose(t, r, api.ErrShort)
		return
	}
	checkErr(t, r, api.OK, len(b))
	checkClose(t, r, api.OK)
}

func TestP1_7ReadBack(t *testing.T) {
	for _, one := range kinds {
		for _, two := range kinds {
			fields := []field{one, two, one}
			b, places := lay(fields)
			checkCut(t, fields, b, places, len(b))
		}
	}
}

func TestP1_7CutOffAnywhere(t *testing.T) {
	backwards := slices.Clone(kinds)
	slices.Reverse(backwards)
	for _, fields := range [][]field{kinds, backwards} {
		b, places := lay(fields)
		for n := range len(b) + 1 {
			checkCut(t, fields, b, places, n)
		}
	}
}

func TestP1_7GreatNumbersAreWide(t *testing.T) {
	for _, x := range []int{-1, math.MinInt, -1 << 32} {
		r := bits.NewReader(bits.Put64(nil, x))
		checkRead(t, r, u64(math.MaxInt), "0")
		checkErr(t, r, api.ErrWide, 0)
	}
}

// checkOneForm: what one call reads from b, written again, is the bytes that it took.
func checkOneForm(t *testing.T, b []byte, again func(r *bits.Reader) []byte) {
	t.Helper()
	r := bits.NewReader(b)
	out := again(r)
	if c, p := r.Err(); c == api.OK && !bytes.Equal(out, b[:p]) {
		t.Fatalf("%x is read, written again it is %x", b[:p], out)
	}
}

func TestP1_7OneForm(t *testing.T) {
	letters := []byte{0, 1, 2, 0x61}
	b := make([]byte, 8)
	for n := range 1 << 16 {
		for i := range b {
			b[i] = letters[n>>(2*i)&3]
		}
		checkOneForm(t, b, func(r *bits.Reader) []byte { return bits.Put32(nil, r.U32(math.MaxInt)) })
		checkOneForm(t, b, func(r *bits.Reader) []byte { return bits.Put64(nil, r.U64(math.MaxInt)) })
		checkOneForm(t, b, func(r *bits.Reader) []byte { return bits.PutSum(nil, r.Sum()) })
		checkOneForm(t, b, func(r *bits.Reader) []byte { return bits.PutText(nil, r.Text(math.MaxInt)) })
		checkOneForm(t, b, func(r *bits.Reader) []byte { return bits.PutBytes(nil, r.Bytes(math.MaxInt)) })
		checkOneForm(t, b, func(r *bits.Reader) []byte {
			if r.Flag() {
				return bits.Put32(nil, 1)
			}
			return bits.Put32(nil, 0)
		})
	}
}
