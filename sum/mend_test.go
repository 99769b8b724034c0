package sum_test

import (
	"bytes"
	"encoding/hex"
	"math/rand"
	"runtime"
	"slices"
	"testing"

	"annex/sum"
)

func checkMend(t *testing.T, b []byte, want uint64, at int, x byte, ok bool) {
	t.Helper()
	gotAt, gotX, gotOk := sum.Mend(b, want)
	if gotAt != at || gotX != x || gotOk != ok {
		t.Errorf("Mend(%.64x, %x) = %d, %d, %v, want %d, %d, %v", b, want, gotAt, gotX, gotOk, at, x, ok)
	}
}

// mendByTrying has the answer of Mend from each byte at each place, one behind the other.
func mendByTrying(b []byte, want uint64) (int, byte, bool) {
	if sum.Sum(b) == want {
		return -1, 0, true
	}
	for at := range b {
		for x := range 256 {
			if sum.Sum(changed(b, at, byte(x))) == want {
				return at, byte(x), true
			}
		}
	}
	return 0, 0, false
}

func changed(b []byte, at int, x byte) []byte {
	other := slices.Clone(b)
	other[at] = x
	return other
}

func TestP2_4Examples(t *testing.T) {
	const foobar = 0x85944171f73967e8
	for _, c := range []struct {
		b    string
		want uint64
		at   int
		x    byte
		ok   bool
	}{
		{"foobar", foobar, -1, 0, true},
		{"foubar", foobar, 2, 'o', true},
		{"goobar", foobar, 0, 'f', true},
		{"foobaz", foobar, 5, 'r', true},
		{"fuubar", foobar, 0, 0, false},
		{"fooba", foobar, 0, 0, false},
		{"foobarr", foobar, 0, 0, false},
		{"", 0, 0, 0, false},
		{"", begin, -1, 0, true},
		{"a", 0xaf63bd4c8601b7df, 0, 0, true},
		{"\x00", 0xaf64724c8602eb6e, 0, 255, true},
		{"a", begin, 0, 0, false},
	} {
		checkMend(t, []byte(c.b), c.want, c.at, c.x, c.ok)
	}
	checkMend(t, nil, begin, -1, 0, true)
	checkMend(t, nil, begin+1, 0, 0, false)
}

func TestP2_4EachPlaceAndByte(t *testing.T) {
	b := []byte("\x00a\xff\x80\x01")
	for at := range b {
		for x := range 256 {
			if byte(x) != b[at] {
				checkMend(t, b, sum.Sum(changed(b, at, byte(x))), at, byte(x), true)
			}
		}
	}
}

func TestP2_4AsByTrying(t *testing.T) {
	source := rand.New(rand.NewSource(4))
	for n := range 12 {
		b := randomBytes(source, n)
		wants := append(slices.Clone(numbers), sum.Sum(b), sum.Sum(b)+1, sum.Sum(b)^255, sum.Sum(append(b, 0)))
		if n > 1 {
			wants = append(wants, sum.Sum(b[1:]), sum.Sum(changed(changed(b, 0, ^b[0]), n-1, ^b[n-1])))
		}
		if n > 0 {
			at := source.Intn(n)
			wants = append(wants, sum.Sum(changed(b, at, ^b[at])), sum.Sum(b[:n-1]))
		}
		for _, want := range wants {
			at, x, ok := mendByTrying(b, want)
			checkMend(t, b, want, at, x, ok)
		}
	}
}

func TestP2_4OnlyTheLowestByteMends(t *testing.T) {
	for _, b := range [][]byte{{0}, {255}, []byte("ab")} {
		for bit := range 64 {
			want := sum.More(begin^1<<bit, b)
			if bit < 8 {
				checkMend(t, b, want, 0, b[0]^1<<bit, true)
			} else {
				checkMend(t, b, want, 0, 0, false)
			}
		}
	}
}

// twins answers two lists that differ at their first and last place behind ahead, and have one sum.
func twins(t *testing.T, ahead, behind string) (a, b []byte) {
	t.Helper()
	middle, err := hex.DecodeString("0424404c11a10184c10601020001a90501c7108a21460026844720")
	if err != nil {
		t.Fatal(err)
	}
	low := byte(sum.Sum([]byte(ahead)))
	a = slices.Concat([]byte(ahead), []byte{low ^ 0xb0}, middle, []byte{0xf0}, []byte(behind))
	b = slices.Concat([]byte(ahead), []byte{low ^ 0x4f}, middle, []byte{0x0f}, []byte(behind))
	if sum.Sum(a) != sum.Sum(b) {
		t.Fatalf("twins %x and %x have the sums %x and %x", a, b, sum.Sum(a), sum.Sum(b))
	}
	return a, b
}

func TestP2_4LeastPlace(t *testing.T) {
	for _, ahead := range []string{"", "x", "some bytes ahead"} {
		for _, behind := range []string{"", "y", "and some behind"} {
			a, b := twins(t, ahead, behind)
			first, last := len(ahead), len(a)-len(behind)-1
			checkMend(t, changed(a, first, b[first]), sum.Sum(a), first, a[first], true)
			checkMend(t, changed(b, first, a[first]), sum.Sum(a), first, b[first], true)
			checkMend(t, changed(a, last, b[last]), sum.Sum(a), first, b[first], true)
			checkMend(t, a, sum.Sum(b), -1, 0, true)
		}
	}
}

func TestP2_4GrowsAsTheLength(t *testing.T) {
	b := bytes.Repeat([]byte("annex"), 200000)
	want := sum.Sum(b)
	b[900000] ^= 9
	var before, behind runtime.MemStats
	runtime.ReadMemStats(&before)
	at, x, ok := sum.Mend(b, want)
	runtime.ReadMemStats(&behind)
	if at != 900000 || x != b[900000]^9 || !ok {
		t.Errorf("Mend of a million bytes = %d, %d, %v", at, x, ok)
	}
	if used := behind.TotalAlloc - before.TotalAlloc; used > 64*uint64(len(b)) {
		t.Errorf("Mend of %d bytes took %d bytes", len(b), used)
	}
}

func TestP2_8OneChangedByteIsMended(t *testing.T) {
	source := rand.New(rand.NewSource(8))
	for _, n := range []int{1, 2, 3, 4, 5, 8, 23, 512, 1400} {
		a := randomBytes(source, n)
		for range 300 {
			at := source.Intn(n)
			b := changed(a, at, a[at]^byte(1+source.Intn(255)))
			checkMended(t, a, b)
		}
	}
}

func checkMended(t *testing.T, a, b []byte) (int, byte) {
	t.Helper()
	at, x, ok := sum.Mend(b, sum.Sum(a))
	if !ok || at < 0 || at >= len(b) || sum.Sum(changed(b, at, x)) != sum.Sum(a) {
		t.Fatalf("Mend(%.64x, Sum(%.64x)) = %d, %d, %v", b, a, at, x, ok)
	}
	return at, x
}

func TestP2_8MendedToAnotherOfTheSameSum(t *testing.T) {
	a, other := twins(t, "", "")
	last := len(a) - 1
	b := changed(a, last, other[last])
	if at, x := checkMended(t, a, b); at != 0 || x != other[0] {
		t.Errorf("Mend of a twin = %d, %d, want its other twin", at, x)
	}
}
