package sum_test

import (
	"math/rand"
	"slices"
	"testing"

	"annex/sum"
)

func TestP2_6CutAndJoined(t *testing.T) {
	for _, h := range numbers {
		for _, b := range lists() {
			whole := sum.More(h, b)
			for cut := range len(b) + 1 {
				if got := sum.More(sum.More(h, b[:cut]), b[cut:]); got != whole {
					t.Fatalf("More(%x, %.16x) cut at %d = %x, whole %x", h, b, cut, got, whole)
				}
				if len(b) > 100 && cut > 10 {
					break
				}
			}
		}
	}
}

func TestP2_6ThereAndBack(t *testing.T) {
	for _, h := range numbers {
		for _, b := range lists() {
			if got := sum.Back(sum.More(h, b), b); got != h {
				t.Fatalf("Back(More(%x, b), b) = %x, b = %.16x", h, got, b)
			}
			if got := sum.More(sum.Back(h, b), b); got != h {
				t.Fatalf("More(Back(%x, b), b) = %x, b = %.16x", h, got, b)
			}
		}
	}
}

func TestP2_6UnlikeStaysUnlike(t *testing.T) {
	for _, b := range lists() {
		from := map[uint64]uint64{}
		for _, h := range numbers {
			for _, g := range append([]uint64{h}, neighbours(h)...) {
				got := sum.More(g, b)
				if other, ok := from[got]; ok && other != g {
					t.Fatalf("More of %x and of %x with %.16x are both %x", g, other, b, got)
				}
				from[got] = g
			}
		}
	}
}

// neighbours differ from h in one bit each: what the steps may not lose.
func neighbours(h uint64) []uint64 {
	all := make([]uint64, 64)
	for i := range all {
		all[i] = h ^ 1<<i
	}
	return all
}

func TestP2_7OneByteIsTold(t *testing.T) {
	for _, h := range numbers {
		a := []byte("\x00annex\xff")
		for at := range a {
			seen := map[uint64]int{}
			for x := range 256 {
				seen[sum.More(h, changed(a, at, byte(x)))] = x
			}
			if len(seen) != 256 {
				t.Errorf("256 bytes at %d from %x on have %d sums", at, h, len(seen))
			}
		}
	}
}

func TestP2_7TwoNeighboursAreTold(t *testing.T) {
	for _, h := range []uint64{begin, 0, 1<<64 - 1} {
		seen := map[uint64]int{}
		for x := range 1 << 16 {
			seen[sum.More(h, []byte{'a', byte(x), byte(x >> 8), 'b'})] = x
		}
		if len(seen) != 1<<16 {
			t.Errorf("two bytes from %x on have %d sums", h, len(seen))
		}
	}
}

func TestP2_7FourNeighboursAreTold(t *testing.T) {
	source := rand.New(rand.NewSource(7))
	for range 200000 {
		h := source.Uint64()
		a := randomBytes(source, 4+source.Intn(20))
		b := slices.Clone(a)
		at := source.Intn(len(b) - 3)
		source.Read(b[at : at+4])
		if slices.Equal(a, b) {
			continue
		}
		if sum.More(h, a) == sum.More(h, b) {
			t.Fatalf("More of %x with %x and with %x are both %x", h, a, b, sum.More(h, a))
		}
	}
}

// TestP2_7FourOfFew takes many lists against each other: bytes that differ in few bits are the likeliest to fall together.
func TestP2_7FourOfFew(t *testing.T) {
	few := []byte{0, 1, 2, 3, 0x1b, 0x33, 0x40, 0x7f, 0x80, 0x81, 0xb3, 0xc0, 0xfe, 0xff}
	for _, h := range numbers {
		seen := map[uint64]bool{}
		for _, w := range few {
			for _, x := range few {
				for _, y := range few {
					for _, z := range few {
						seen[sum.More(h, []byte{w, x, y, z, 'e', 'n', 'd'})] = true
					}
				}
			}
		}
		if want := len(few) * len(few) * len(few) * len(few); len(seen) != want {
			t.Errorf("%d lists from %x on have %d sums", want, h, len(seen))
		}
	}
}
