package plan_test

import (
	"bytes"
	"encoding/hex"
	"math/rand"
	"strings"
	"testing"

	"annex/api"
	"annex/plan"
)

// sameRead holds ReadSuper against the chapter's words.
func sameRead(t *testing.T, what string, b []byte) {
	t.Helper()
	want, code := readByWords(b)
	if s, got := plan.ReadSuper(b); s != want || got != code {
		t.Errorf("%s: ReadSuper = %v, %d, want %v, %d", what, s, got, want, code)
	}
}

func readIs(t *testing.T, what string, b []byte, code api.Errno) {
	t.Helper()
	s, got := plan.ReadSuper(b)
	if got != code || s != (api.Shape{}) {
		t.Errorf("%s: ReadSuper = %v, %d, want %d", what, s, got, code)
	}
}

// TestP6_2Example: the sum was worked out outside the project.
func TestP6_2Example(t *testing.T) {
	want := "414e5853" + "00000002" + "00000004" + "00000004" + "00000008" + "00000010" + "00002000" + "00000050" + "0000001b" +
		"fd0108f0606f3f28" + strings.Repeat("00", 468)
	if got := hex.EncodeToString(written(t, small)); got != want {
		t.Errorf("Super = %s, want %s", got, want)
	}
}

func TestP6_2AsTheWordsSay(t *testing.T) {
	for _, s := range fittings(1000) {
		if b := written(t, s); !bytes.Equal(b, blockOf(s)) {
			t.Errorf("Super(%v) = %x", s, b[:48])
		}
	}
}

// TestP6_2PlansError: Super's errors are Plan's, and no block stands beside one.
func TestP6_2PlansError(t *testing.T) {
	for _, n := range theNumbers() {
		for _, x := range n.edges() {
			s := with(small, n, x)
			_, want := planByWords(s)
			b, code := plan.Super(s)
			if code != want || (code != api.OK) != (len(b) == 0) {
				t.Errorf("Super with %s %d: %d bytes, %d, want %d", n.name, x, len(b), code, want)
			}
		}
	}
}

func TestP6_3WrongLength(t *testing.T) {
	b := written(t, small)
	long := append(bytes.Clone(b), make([]byte, 512)...)
	for n := range long {
		if n != 512 {
			readIs(t, "a piece", long[:n], api.ErrSuper)
		}
	}
	readIs(t, "nil", nil, api.ErrSuper)
	readIs(t, "two blocks", long, api.ErrSuper)
	if s, code := plan.ReadSuper(long[:512]); s != small || code != api.OK {
		t.Errorf("with spare room behind it: %v, %d", s, code)
	}
}

// TestP6_3OtherBeginning: a right sum does not help.
func TestP6_3OtherBeginning(t *testing.T) {
	for _, magic := range []string{"ANXH", "ANXs", "ANYS", "AMXS", "BNXS", "SXNA", "\x00\x00\x00\x00"} {
		b := blockOf(small)
		copy(b, magic)
		readIs(t, magic, b, api.ErrSuper)
		resum(b)
		readIs(t, magic+" with a right sum", b, api.ErrSuper)
	}
	readIs(t, "zeros", make([]byte, 512), api.ErrSuper)
}

func TestP6_3WrongSum(t *testing.T) {
	for bit := range 8 * 40 {
		b := blockOf(small)
		b[4+bit/8] ^= 1 << (bit % 8)
		readIs(t, "a bit changed", b, api.ErrSuperSum)
	}
	b := blockOf(small)
	for i := range 4 {
		b[36+i], b[43-i] = b[43-i], b[36+i]
	}
	readIs(t, "the sum's lowest byte first", b, api.ErrSuperSum)
}

func TestP6_3BytesBehind(t *testing.T) {
	for at := 44; at < 512; at++ {
		for _, x := range []byte{1, 0x80, 0xff} {
			b := blockOf(small)
			b[at] = x
			readIs(t, "a byte behind the sum", b, api.ErrSuper)
		}
	}
}

// TestP6_3PlansError: a block that is right in all but its numbers.
func TestP6_3PlansError(t *testing.T) {
	for _, n := range theNumbers() {
		for _, x := range n.edges() {
			sameRead(t, n.name, blockOf(with(small, n, x)))
		}
		readIs(t, n.name, blockOf(with(small, n, 1<<32-1)), api.ErrShape)
		readIs(t, n.name, blockOf(with(small, n, 1<<31)), api.ErrShape)
	}
	for _, data := range []int{79, 4038} {
		s := small
		s.Data = data
		readIs(t, "no room", blockOf(s), api.ErrRoom)
	}
}

// TestP6_3Order: of several faults the first one is told.
func TestP6_3Order(t *testing.T) {
	outside, little := small, small
	outside.Clients, little.Data = 9, 79
	for _, s := range []api.Shape{small, outside, little} {
		b := blockOf(s)
		b[511] = 1
		readIs(t, "a byte behind, and its shape", b, api.ErrSuper)
		b[40]++
		readIs(t, "its sum, a byte behind, and its shape", b, api.ErrSuperSum)
		b[511] = 0
		readIs(t, "its sum, and its shape", b, api.ErrSuperSum)
		b[3] = 'H'
		readIs(t, "its beginning, its sum, and its shape", b, api.ErrSuper)
		b[3] = 'S'
		readIs(t, "its length, its sum, and its shape", b[:511], api.ErrSuper)
	}
}

func TestP6_3AsTheWordsSay(t *testing.T) {
	chance := rand.New(rand.NewSource(63))
	for _, s := range fittings(1000) {
		sameRead(t, "a shape that fits", blockOf(s))
		b := blockOf(s)
		for range 1 + chance.Intn(3) {
			b[chance.Intn(len(b))] ^= byte(chance.Intn(256))
		}
		sameRead(t, "some bytes changed", b)
		b = blockOf(s)
		b[4+chance.Intn(32)] = byte(chance.Intn(256))
		resum(b)
		sameRead(t, "a byte of a number changed, the sum made anew", b)
	}
}
