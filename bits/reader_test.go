package bits_test

import (
	"bytes"
	"fmt"
	"math"
	"strings"
	"testing"

	"annex/api"
	"annex/bits"
)

// read is a reading call, its answer written as a text.
type read struct {
	name string
	do   func(r *bits.Reader) string
}

func u32(most int) read {
	return read{fmt.Sprintf("U32(%d)", most), func(r *bits.Reader) string { return fmt.Sprint(r.U32(most)) }}
}

func u64(most int) read {
	return read{fmt.Sprintf("U64(%d)", most), func(r *bits.Reader) string { return fmt.Sprint(r.U64(most)) }}
}

func text(most int) read {
	return read{fmt.Sprintf("Text(%d)", most), func(r *bits.Reader) string { return r.Text(most) }}
}

func byteList(most int) read {
	return read{fmt.Sprintf("Bytes(%d)", most), func(r *bits.Reader) string { return string(r.Bytes(most)) }}
}

func sum() read {
	return read{"Sum()", func(r *bits.Reader) string { return fmt.Sprint(r.Sum()) }}
}

func flag() read {
	return read{"Flag()", func(r *bits.Reader) string { return fmt.Sprint(r.Flag()) }}
}

func checkErr(t *testing.T, r *bits.Reader, code api.Errno, place int) {
	t.Helper()
	for range 2 {
		if c, p := r.Err(); c != code || p != place {
			t.Errorf("Err() = %d, %d, want %d, %d", c, p, code, place)
		}
	}
}

func checkClose(t *testing.T, r *bits.Reader, code api.Errno) {
	t.Helper()
	if c := r.Close(); c != code {
		t.Errorf("Close() = %d, want %d", c, code)
	}
}

func checkRead(t *testing.T, r *bits.Reader, call read, want string) {
	t.Helper()
	if got := call.do(r); got != want {
		t.Errorf("%s = %q, want %q", call.name, got, want)
	}
}

// cases: one reading call, and how it leaves the reader. Each is tried at the place 0 and behind other fields.
var cases = []struct {
	h     string
	call  read
	want  string
	code  api.Errno
	taken int
}{
	{"", u32(9), "0", api.ErrShort, 0},
	{"000001", u32(9), "0", api.ErrShort, 0},
	{"000001", u32(-1), "0", api.ErrShort, 0},
	{"00000000", u32(0), "0", api.OK, 4},
	{"00000001", u32(0), "0", api.ErrWide, 0},
	{"00000000", u32(-1), "0", api.ErrWide, 0},
	{"00000000", u32(math.MinInt), "0", api.ErrWide, 0},
	{"00000102", u32(258), "258", api.OK, 4},
	{"00000102", u32(257), "0", api.ErrWide, 0},
	{"0000010277", u32(300), "258", api.OK, 4},
	{"01020304", u32(math.MaxInt), "16909060", api.OK, 4},
	{"80000000", u32(1<<31 - 1), "0", api.ErrWide, 0},
	{"80000000", u32(1 << 31), "2147483648", api.OK, 4},
	{"ffffffff", u32(1<<32 - 1), "4294967295", api.OK, 4},
	{"ffffffff", u32(1<<32 - 2), "0", api.ErrWide, 0},
	{"ffffffff", u32(-1), "0", api.ErrWide, 0},

	{"", u64(9), "0", api.ErrShort, 0},
	{"00000000000000", u64(9), "0", api.ErrShort, 0},
	{"00000000000000", u64(-1), "0", api.ErrShort, 0},
	{"0000000000000000", u64(0), "0", api.OK, 8},
	{"0000000000000001", u64(0), "0", api.ErrWide, 0},
	{"0000000000000000", u64(-1), "0", api.ErrWide, 0},
	{"0000000000000000", u64(math.MinInt), "0", api.ErrWide, 0},
	{"0102030405060708", u64(math.MaxInt), "72623859790382856", api.OK, 8},
	{"4000000000000000", u64(api.MaxNumber), "4611686018427387904", api.OK, 8},
	{"4000000000000001", u64(api.MaxNumber), "0", api.ErrWide, 0},
	{"7fffffffffffffff", u64(math.MaxInt), "9223372036854775807", api.OK, 8},
	{"7fffffffffffffff", u64(math.MaxInt - 1), "0", api.ErrWide, 0},
	{"8000000000000000", u64(math.MaxInt), "0", api.ErrWide, 0},
	{"8000000000000000", u64(math.MinInt), "0", api.ErrWide, 0},
	{"ffffffffffffffff", u64(math.MaxInt), "0", api.ErrWide, 0},
	{"ffffffffffffffff", u64(-1), "0", api.ErrWide, 0},

	{"", sum(), "0", api.ErrShort, 0},
	{"ffffffffffffff", sum(), "0", api.ErrShort, 0},
	{"0000000000000000", sum(), "0", api.OK, 8},
	{"8000000000000001", sum(), "9223372036854775809", api.OK, 8},
	{"ffffffffffffffff", sum(), "18446744073709551615", api.OK, 8},

	{"", flag(), "false", api.ErrShort, 0},
	{"000002", flag(), "false", api.ErrShort, 0},
	{"00000000", flag(), "false", api.OK, 4},
	{"00000001", flag(), "true", api.OK, 4},
	{"00000002", flag(), "false", api.ErrFlag, 0},
	{"00000101", flag(), "false", api.ErrFlag, 0},
	{"01000000", flag(), "false", api.ErrFlag, 0},
	{"ffffffff", flag(), "false", api.ErrFlag, 0},
}

// lengthened: the cases of Text and Bytes, which are laid alike.
var lengthened = []struct {
	h     string
	most  int
	want  string
	code  api.Errno
	taken int
}{
	{"", 9, "", api.ErrShort, 0},
	{"000000", 9, "", api.ErrShort, 0},
	{"000000", -1, "", api.ErrShort, 0},
	{"00000000", 0, "", api.OK, 4},
	{"00000000", -1, "", api.ErrLong, 0},
	{"00000000", math.MinInt, "", api.ErrLong, 0},
	{"00000000 61", 9, "", api.OK, 4},
	{"00000001 61000000", 1, "a", api.OK, 8},
	{"00000001 61000000", 0, "", api.ErrLong, 0},
	{"00000001 61000000", -1, "", api.ErrLong, 0},
	{"00000001 00000000", 1, "\x00", api.OK, 8},
	{"00000002 61620000", math.MaxInt, "ab", api.OK, 8},
	{"00000003 61626300", 3, "abc", api.OK, 8},
	{"00000004 61626364", 4, "abcd", api.OK, 8},
	{"00000004 61626364 77", 4, "abcd", api.OK, 8},
	{"00000005 6162636465000000", 5, "abcde", api.OK, 12},
	{"00000001 61000001", 9, "", api.ErrPad, 0},
	{"00000001 61000100", 9, "", api.ErrPad, 0},
	{"00000001 61800000", 9, "", api.ErrPad, 0},
	{"00000003 616263ff", 9, "", api.ErrPad, 0},
	{"00000001 61000001", 0, "", api.ErrLong, 0},
	{"00000005 6162", 4, "", api.ErrLong, 0},
	{"00000005 6162", 5, "", api.ErrShort, 0},
	{"00000001", 5, "", api.ErrShort, 0},
	{"00000001 61", 5, "", api.ErrShort, 0},
	{"00000001 610000", 5, "", api.ErrShort, 0},
	{"00000001 610001", 5, "", api.ErrShort, 0},
	{"00000005 61626364650000", 5, "", api.ErrShort, 0},
	{"7fffffff 61", math.MaxInt, "", api.ErrShort, 0},
	{"80000000 61", 1<<31 - 1, "", api.ErrLong, 0},
	{"fffffffd", 1<<32 - 1, "", api.ErrShort, 0},
	{"ffffffff 61", 1<<32 - 1, "", api.ErrShort, 0},
	{"ffffffff 61", 1<<32 - 2, "", api.ErrLong, 0},
	{"ffffffff 61", -1, "", api.ErrLong, 0},
}

func checkCase(t *testing.T, h string, call read, want string, code api.Errno, taken int) {
	t.Helper()
	for ahead := range 4 {
		b := bits.Put32(nil, 7)
		b = bits.PutText(b, strings.Repeat("y", ahead))
		r := bits.NewReader(append(b, fromHex(t, h)...))
		r.U32(7)
		r.Text(ahead)
		got := call.do(r)
		c, p := r.Err()
		if got != want || c != code || p != len(b)+taken {
			t.Errorf("%q: %s = %q, Err() = %d, %d; want %q, %d, %d", h, call.name, got, c, p, want, code, len(b)+taken)
		}
	}
	r := bits.NewReader(fromHex(t, h))
	checkRead(t, r, call, want)
	checkErr(t, r, code, taken)
}

func TestP1_2OneCall(t *testing.T) {
	for _, c := range cases {
		checkCase(t, c.h, c.call, c.want, c.code, c.taken)
	}
	for _, c := range lengthened {
		checkCase(t, c.h, text(c.most), c.want, c.code, c.taken)
		checkCase(t, c.h, byteList(c.most), c.want, c.code, c.taken)
	}
}

func TestP1_2PlaceMoves(t *testing.T) {
	r := bits.NewReader(fromHex(t, "00000102 0000000000000003 ffffffffffffffff 00000001 00000001 61000000 00000002 01020000"))
	place := 0
	for _, c := range []struct {
		call  read
		want  string
		taken int
	}{{u32(300), "258", 4}, {u64(3), "3", 8}, {sum(), "18446744073709551615", 8}, {flag(), "true", 4}, {text(1), "a", 8}, {byteList(2), "\x01\x02", 8}} {
		checkErr(t, r, api.OK, place)
		checkRead(t, r, c.call, c.want)
		place += c.taken
	}
	checkErr(t, r, api.OK, place)
	checkClose(t, r, api.OK)
}

// failures: bytes that a call cannot read, one for each error that a reading call has.
var failures = []struct {
	h    string
	call read
	code api.Errno
}{
	{"000000", u32(9), api.ErrShort},
	{"00000009 00000001 00000000", u32(8), api.ErrWide},
	{"00000000", u64(9), api.ErrShort},
	{"8000000000000000", u64(9), api.ErrWide},
	{"00000000", sum(), api.ErrShort},
	{"00000003 00000001", flag(), api.ErrFlag},
	{"00000009 00000001", text(8), api.ErrLong},
	{"00000009 00000001", byteList(9), api.ErrShort},
	{"00000001 61010000 00000001", text(8), api.ErrPad},
	{"00000001 61010000 00000001", byteList(8), api.ErrPad},
}

// later: calls that would read well, or have another error, if a failed reader tried them.
var later = []struct {
	call read
	want string
}{
	{u32(math.MaxInt), "0"}, {u32(-1), "0"}, {u64(math.MaxInt), "0"}, {u64(-1), "0"}, {sum(), "0"}, {flag(), "false"},
	{text(math.MaxInt), ""}, {text(-1), ""}, {byteList(math.MaxInt), ""}, {byteList(-1), ""},
}

func checkStaysFailed(t *testing.T, r *bits.Reader, code api.Errno, place int) {
	t.Helper()
	for range 2 {
		for _, l := range later {
			checkRead(t, r, l.call, l.want)
			checkErr(t, r, code, place)
			checkClose(t, r, code)
		}
	}
}

func TestP1_3FirstErrorStays(t *testing.T) {
	for _, f := range failures {
		r := bits.NewReader(append(fromHex(t, "00000001"), fromHex(t, f.h)...))
		if !r.Flag() {
			t.Errorf("%s: the field ahead is not read", f.h)
		}
		f.call.do(r)
		checkErr(t, r, f.code, 4)
		checkStaysFailed(t, r, f.code, 4)
	}
}

func TestP1_4ErrChangesNothing(t *testing.T) {
	r := bits.NewReader(fromHex(t, "00000005 00000006"))
	checkErr(t, r, api.OK, 0)
	checkRead(t, r, u32(9), "5")
	checkErr(t, r, api.OK, 4)
	checkRead(t, r, u32(9), "6")
	checkErr(t, r, api.OK, 8)
	checkRead(t, r, u32(9), "0")
	checkErr(t, r, api.ErrShort, 8)
	checkErr(t, bits.NewReader(nil), api.OK, 0)
}

func TestP1_5CloseWithRest(t *testing.T) {
	for _, rest := range []string{"00", "00000001", "00000000 00000000 00000000"} {
		r := bits.NewReader(append(fromHex(t, "00000102"), fromHex(t, rest)...))
		checkRead(t, r, u32(300), "258")
		checkClose(t, r, api.ErrRest)
		checkErr(t, r, api.ErrRest, 4)
		checkStaysFailed(t, r, api.ErrRest, 4)
	}
	r := bits.NewReader([]byte{0})
	checkClose(t, r, api.ErrRest)
	checkErr(t, r, api.ErrRest, 0)
}

func TestP1_5CloseAtTheEnd(t *testing.T) {
	r := bits.NewReader(fromHex(t, "00000001"))
	r.Flag()
	checkClose(t, r, api.OK)
	checkClose(t, r, api.OK)
	checkErr(t, r, api.OK, 4)
	checkRead(t, r, text(9), "")
	checkErr(t, r, api.ErrShort, 4)
	checkClose(t, r, api.ErrShort)
	for _, b := range [][]byte{nil, {}} {
		r = bits.NewReader(b)
		checkClose(t, r, api.OK)
		checkRead(t, r, sum(), "0")
		checkErr(t, r, api.ErrShort, 0)
	}
}

func TestP1_6BytesAreNewMemory(t *testing.T) {
	const h = "00000002 61620000 00000002 63640000 00000003 65666700"
	r := bits.NewReader(fromHex(t, h))
	var lists [][]byte
	for _, want := range []string{"ab", "cd", "efg"} {
		d := r.Bytes(9)
		if string(d) != want {
			t.Errorf("Bytes(9) = %q, want %q", d, want)
		}
		for _, other := range lists {
			if other[0] != 0xee {
				t.Errorf("a list shows what was written into another: %x", other)
			}
		}
		fill(d[:cap(d)], 0xee)
		lists = append(lists, d)
	}
	checkClose(t, r, api.OK)
	fill(lists[0][:cap(lists[0])], 0x11)
	if lists[1][0] != 0xee || lists[2][0] != 0xee {
		t.Errorf("two lists share memory: %x %x", lists[1], lists[2])
	}
}

func TestP1_6ReaderKeepsACopy(t *testing.T) {
	owner := fromHex(t, "00000102 00000002 61620000 5555")
	whole := bytes.Clone(owner)
	r := bits.NewReader(owner[:12])
	fill(owner, 0xee)
	checkRead(t, r, u32(300), "258")
	fill(r.Bytes(9), 0x11)
	checkClose(t, r, api.OK)
	if !bytes.Equal(owner, bytes.Repeat([]byte{0xee}, len(whole))) {
		t.Errorf("the reader wrote into what was handed in: %x", owner)
	}
}

func TestReadersBesideEachOther(t *testing.T) {
	b := fromHex(t, "00000005 00000006")
	one, two := bits.NewReader(b), bits.NewReader(b)
	checkRead(t, one, u32(1), "0")
	checkRead(t, two, u32(9), "5")
	checkErr(t, one, api.ErrWide, 0)
	checkErr(t, two, api.OK, 4)
}
