package server_test

import (
	"encoding/binary"
	"fmt"
	"math/rand"
	"testing"

	"annex/api"
)

// damage lays something by hand, by chance, into an image.
func damage(r *rand.Rand, l api.Layout, image []byte) {
	first := []int{l.Ledger, l.Ledger + 1 + 3*r.Intn(l.Shape.Cache), l.Table + r.Intn(l.TableLen), l.Bits, l.Data + r.Intn(l.DataLen), l.Journal + r.Intn(l.JournalLen), r.Intn(2), r.Intn(l.Total)}
	block := first[r.Intn(len(first))]
	b := image[512*block : 512*block+512]
	switch r.Intn(5) {
	case 0:
		b[r.Intn(512)] ^= byte(1 + r.Intn(255))
	case 1:
		b[r.Intn(64)] ^= byte(1 + r.Intn(255))
	case 2:
		binary.BigEndian.PutUint64(b[8*r.Intn(8):], []uint64{0, 1, 5, 1 << 40, last - 1, last, last + 1, 1 << 63}[r.Intn(8)])
	case 3:
		binary.BigEndian.PutUint32(b[4*r.Intn(16):], uint32(r.Intn(300)))
	case 4:
		clear(b)
	}
}

// TestP15_3AnyImage: over images in which something was laid by hand all calls end, with what the second telling says; one that is up may go down.
func TestP15_3AnyImage(t *testing.T) {
	const parts = 8
	ends := make([]map[string]int, parts)
	t.Run("", func(t *testing.T) {
		for part := range parts {
			ends[part] = map[string]int{}
			t.Run(fmt.Sprint(part), func(t *testing.T) {
				t.Parallel()
				for seed := range 120 {
					anyImage(t, int64(parts*seed+part), ends[part])
				}
			})
		}
	})
	total := map[string]int{}
	for _, e := range ends {
		for what, n := range e {
			total[what] += n
		}
	}
	for _, what := range []string{"no boot", "down", "up"} {
		is(t, what+" was among them", total[what] > 20, true)
	}
}

func anyImage(t *testing.T, seed int64, ends map[string]int) {
	t.Helper()
	shape := shapes()[seed%4]
	r := rand.New(rand.NewSource(seed))
	s, code := storyOf(t, imageOf(t, shape), shape, seed)
	is(t, "Open", code, api.OK)
	for range r.Intn(60) {
		s.happens()
	}
	image := s.d.Durable()
	for range 1 + r.Intn(3) {
		damage(r, layoutOf(t, shape), image)
	}
	p, code := pairOf(t, image)
	if code != api.OK {
		ends["no boot"]++
		return
	}
	s.pair, s.epoch, s.shape = p, p.s.Epoch(), p.s.Shape()
	for range 40 {
		s.happens()
	}
	if s.s.Up() {
		ends["up"]++
		return
	}
	ends["down"]++
	s.boot()
}
