package sum_test

import (
	"bytes"
	"hash/fnv"
	"math"
	"math/big"
	"math/rand"
	"sync"
	"testing"

	"annex/sum"
)

const begin = 0xcbf29ce484222325

var numbers = []uint64{0, 1, 2, 255, 256, 1 << 40, 1<<40 + 0x1b3, 1 << 63, math.MaxUint64, math.MaxUint64 - 255, begin, 0xce965057aff6957b}

// lists has nothing, each single byte, the edges of long runs, and bytes without a rule.
func lists() [][]byte {
	all := [][]byte{nil, {}, []byte("ab"), []byte("ba"), []byte("foobar"), make([]byte, 512), bytes.Repeat([]byte{255}, 1400)}
	for x := range 256 {
		all = append(all, []byte{byte(x)})
	}
	source := rand.New(rand.NewSource(2))
	for n := range 40 {
		all = append(all, randomBytes(source, n))
	}
	return all
}

func randomBytes(source *rand.Rand, n int) []byte {
	b := make([]byte, n)
	source.Read(b)
	return b
}

// stepByBig does a step as the chapter says it, with numbers that have no end, cut off behind.
func stepByBig(h uint64, x byte) uint64 {
	mixed := new(big.Int).SetUint64(h&^255 | uint64(byte(h)^x))
	mixed.Mul(mixed, big.NewInt(1099511628211))
	return mixed.Mod(mixed, new(big.Int).Lsh(big.NewInt(1), 64)).Uint64()
}

func TestP2_1MoreStepsFromTheFirstByteOn(t *testing.T) {
	for _, h := range numbers {
		for _, b := range lists() {
			want := h
			for _, x := range b {
				want = stepByBig(want, x)
			}
			if got := sum.More(h, b); got != want {
				t.Fatalf("More(%x, %.16x) = %x, want %x", h, b, got, want)
			}
		}
	}
}

func TestP2_1Examples(t *testing.T) {
	if got := sum.More(0, []byte("a")); got != 0x000061000000a4d3 {
		t.Errorf("More(0, a) = %x", got)
	}
	if got := sum.More(sum.Sum([]byte("foo")), []byte("bar")); got != 0x85944171f73967e8 {
		t.Errorf("More(Sum(foo), bar) = %x", got)
	}
}

func TestP2_2Examples(t *testing.T) {
	for _, c := range []struct {
		b    []byte
		want uint64
	}{
		{nil, 0xcbf29ce484222325},
		{[]byte{}, 0xcbf29ce484222325},
		{[]byte("a"), 0xaf63dc4c8601ec8c},
		{[]byte("b"), 0xaf63df4c8601f1a5},
		{[]byte("ab"), 0x089c4407b545986a},
		{[]byte("foobar"), 0x85944171f73967e8},
		{[]byte{0}, 0xaf63bd4c8601b7df},
		{[]byte{255}, 0xaf64724c8602eb6e},
		{make([]byte, 512), 0x7da144b97d054b25},
	} {
		if got := sum.Sum(c.b); got != c.want {
			t.Errorf("Sum(%.16x) = %x, want %x", c.b, got, c.want)
		}
	}
}

func TestP2_2SumIsMoreOfTheBeginning(t *testing.T) {
	for _, b := range lists() {
		known := fnv.New64a()
		known.Write(b)
		if got := sum.Sum(b); got != known.Sum64() || got != sum.More(begin, b) {
			t.Errorf("Sum(%.16x) = %x, want %x, and More %x", b, got, known.Sum64(), sum.More(begin, b))
		}
	}
}

func TestP2_3Examples(t *testing.T) {
	for _, c := range []struct {
		h    uint64
		b    []byte
		want uint64
	}{
		{0x85944171f73967e8, []byte("bar"), sum.Sum([]byte("foo"))},
		{0x85944171f73967e8, []byte("foobar"), begin},
		{1, []byte("a"), 0xce965057aff6951a},
		{1, []byte{0}, 0xce965057aff6957b},
		{0, []byte{0}, 0},
		{9, nil, 9},
		{9, []byte{}, 9},
	} {
		if got := sum.Back(c.h, c.b); got != c.want {
			t.Errorf("Back(%x, %x) = %x, want %x", c.h, c.b, got, c.want)
		}
	}
}

func TestP2_3BackIsWhereMoreCameFrom(t *testing.T) {
	for _, h := range numbers {
		for _, b := range lists() {
			if g := sum.Back(h, b); sum.More(g, b) != h {
				t.Fatalf("Back(%x, %.16x) = %x, from where More is %x", h, b, g, sum.More(g, b))
			}
		}
	}
}

func TestP2_5HandedInIsNotChanged(t *testing.T) {
	for _, want := range []uint64{0x85944171f73967e8, sum.Sum([]byte("foubar")), 0} {
		whole := []byte("<foubar>behind")
		b := whole[1:7]
		sum.Sum(b)
		sum.More(5, b)
		sum.Back(7, b)
		sum.Mend(b, want)
		if string(whole) != "<foubar>behind" {
			t.Errorf("behind calls with %x: %q", want, whole)
		}
	}
}

func TestP2_5NothingIsKept(t *testing.T) {
	b := []byte("foubar")
	sum.Mend(b, 0x85944171f73967e8)
	copy(b, "foobaz")
	if at, x, ok := sum.Mend(b, 0x85944171f73967e8); at != 5 || x != 'r' || !ok {
		t.Errorf("Mend(foobaz) in the memory of foubar = %d, %d, %v", at, x, ok)
	}
	if got := sum.Sum(b[:3]); got != sum.Sum([]byte("foo")) {
		t.Errorf("Sum(foo) in the memory of foubar = %x", got)
	}
	if got := sum.Back(0x85944171f73967e8, []byte("bar")); got != sum.Sum(b[:3]) {
		t.Errorf("Back behind other calls = %x", got)
	}
}

func TestP2_5CallsBesideEachOther(t *testing.T) {
	b := []byte("foubar")
	var group sync.WaitGroup
	for range 8 {
		group.Go(func() {
			for range 200 {
				at, x, ok := sum.Mend(b, 0x85944171f73967e8)
				if at != 2 || x != 'o' || !ok || sum.Back(sum.Sum(b), b) != begin {
					t.Errorf("Mend(foubar) beside others = %d, %d, %v", at, x, ok)
				}
			}
		})
	}
	group.Wait()
}
