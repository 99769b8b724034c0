package bits_test

import (
	"bytes"
	"encoding/hex"
	"math"
	"strings"
	"testing"

	"annex/bits"
)

func fromHex(t *testing.T, h string) []byte {
	t.Helper()
	b, err := hex.DecodeString(strings.ReplaceAll(h, " ", ""))
	if err != nil {
		t.Fatal(err)
	}
	return b
}

func checkBytes(t *testing.T, what string, got []byte, h string) {
	t.Helper()
	if want := fromHex(t, h); !bytes.Equal(got, want) {
		t.Errorf("%s = %x, want %x", what, got, want)
	}
}

func TestP1_1Numbers(t *testing.T) {
	for _, c := range []struct {
		x              int
		narrow, widest string
	}{
		{0, "00000000", "0000000000000000"},
		{1, "00000001", "0000000000000001"},
		{258, "00000102", "0000000000000102"},
		{0x01020304, "01020304", "0000000001020304"},
		{0x0102030405060708, "05060708", "0102030405060708"},
		{1<<31 - 1, "7fffffff", "000000007fffffff"},
		{1 << 31, "80000000", "0000000080000000"},
		{1<<32 - 1, "ffffffff", "00000000ffffffff"},
		{1 << 32, "00000000", "0000000100000000"},
		{1<<32 + 5, "00000005", "0000000100000005"},
		{math.MaxInt, "ffffffff", "7fffffffffffffff"},
		{-1, "ffffffff", "ffffffffffffffff"},
		{-2, "fffffffe", "fffffffffffffffe"},
		{-1 << 32, "00000000", "ffffffff00000000"},
		{math.MinInt, "00000000", "8000000000000000"},
	} {
		checkBytes(t, "Put32", bits.Put32(nil, c.x), c.narrow)
		checkBytes(t, "Put64", bits.Put64(nil, c.x), c.widest)
		checkBytes(t, "PutSum", bits.PutSum(nil, uint64(c.x)), c.widest)
		checkBytes(t, "Put32 behind 07", bits.Put32([]byte{7}, c.x), "07"+c.narrow)
		checkBytes(t, "Put64 behind 0708", bits.Put64([]byte{7, 8}, c.x), "0708"+c.widest)
		checkBytes(t, "PutSum behind 070809", bits.PutSum([]byte{7, 8, 9}, uint64(c.x)), "070809"+c.widest)
	}
	checkBytes(t, "PutSum", bits.PutSum(nil, 0xcbf29ce484222325), "cbf29ce484222325")
}

func TestP1_1Texts(t *testing.T) {
	for _, c := range []struct{ s, want string }{
		{"", "00000000"},
		{"a", "00000001 61000000"},
		{"ab", "00000002 61620000"},
		{"abc", "00000003 61626300"},
		{"abcd", "00000004 61626364"},
		{"abcde", "00000005 6162636465000000"},
		{"\x00", "00000001 00000000"},
		{"\xff\xfe\x00", "00000003 fffe0000"},
		{"é", "00000002 c3a90000"},
	} {
		for _, ahead := range []string{"", "09", "0909", "090909", "09090909"} {
			b := fromHex(t, ahead)
			checkBytes(t, "PutText", bits.PutText(b, c.s), ahead+c.want)
			checkBytes(t, "PutBytes", bits.PutBytes(b, []byte(c.s)), ahead+c.want)
		}
	}
	checkBytes(t, "PutBytes of nil", bits.PutBytes(nil, nil), "00000000")
	long := strings.Repeat("x", 258)
	checkBytes(t, "PutText of 258 bytes", bits.PutText(nil, long), "00000102"+strings.Repeat("78", 258)+"0000")
}

// puts has each Put with a field of its own, so that what holds for all of them is tried with all of them.
var puts = []struct {
	name string
	put  func(b []byte) []byte
}{
	{"Put32", func(b []byte) []byte { return bits.Put32(b, 0x11223344) }},
	{"Put64", func(b []byte) []byte { return bits.Put64(b, 0x1122334455667788) }},
	{"PutSum", func(b []byte) []byte { return bits.PutSum(b, 0x8122334455667788) }},
	{"PutText", func(b []byte) []byte { return bits.PutText(b, "abcde") }},
	{"PutText of nothing", func(b []byte) []byte { return bits.PutText(b, "") }},
	{"PutBytes", func(b []byte) []byte { return bits.PutBytes(b, []byte{1, 2, 3}) }},
	{"PutBytes of nothing", func(b []byte) []byte { return bits.PutBytes(b, nil) }},
}

func fill(b []byte, c byte) {
	for i := range b {
		b[i] = c
	}
}

func TestP1_1NewMemory(t *testing.T) {
	for _, p := range puts {
		owner := bytes.Repeat([]byte{0x55}, 64)
		first := p.put(owner[:3])
		second := p.put(owner[:3])
		if !bytes.Equal(owner, bytes.Repeat([]byte{0x55}, 64)) {
			t.Errorf("%s wrote into b or its spare room: %x", p.name, owner)
		}
		before := bytes.Clone(second)
		fill(first[:cap(first)], 0xee)
		if !bytes.Equal(second, before) || owner[0] != 0x55 || owner[3] != 0x55 {
			t.Errorf("%s: an answer shares memory with b or with another answer", p.name)
		}
		fill(owner, 0x66)
		if !bytes.Equal(second, before) {
			t.Errorf("%s: the answer is b's memory", p.name)
		}
	}
}

func TestP1_1PutBytesLeavesItsBytes(t *testing.T) {
	owner := []byte{1, 2, 3, 9, 9, 9, 9, 9}
	out := bits.PutBytes(owner[:2], owner[:3])
	checkBytes(t, "PutBytes of b's own bytes", out, "0102 00000003 01020300")
	fill(out[:cap(out)], 0xee)
	checkBytes(t, "what was handed in", owner, "0102030909090909")
}
