package alarm

import (
	"math/rand"
	"testing"
)

// sound asks that the row is a heap, that the map says just where each key of it stands, and that the row's spare room is empty.
func sound(t *testing.T, h *heap[int]) {
	t.Helper()
	if len(h.places) != len(h.row) {
		t.Fatalf("%d keys in the map, %d in the row", len(h.places), len(h.row))
	}
	for i, x := range h.row {
		if place, ok := h.places[x.key]; !ok || place != i {
			t.Fatalf("the key %d stands at %d; the map says %d, %v", x.key, i, place, ok)
		}
		if i > 0 && h.ahead(x, h.row[above(i)]) {
			t.Fatalf("what stands at %d is ahead of the one above it", i)
		}
	}
	for _, x := range h.row[len(h.row):cap(h.row)] {
		if x != (timer[int]{}) {
			t.Fatalf("%v stands behind the row's end", x)
		}
	}
	if h.gone > len(h.row) {
		t.Fatalf("the room of %d that have gone is kept for %d that stay", h.gone, len(h.row))
	}
}

// TestP16_4Inside: behind each call the alarm has what its keys and times ask for, and nothing else.
func TestP16_4Inside(t *testing.T) {
	for _, keys := range []int{1, 2, 3, 4, 5, 10, 64, 200} {
		for _, times := range []int{1, 3, 50, 1000} {
			r := rand.New(rand.NewSource(int64(keys + times)))
			a := New[int]()
			for i := range 3000 {
				k := 1 + r.Intn(keys)
				switch r.Intn(8) {
				case 0, 1, 2:
					a.Cancel(k)
				case 3:
					a.Due(r.Intn(times) - i%2*times/2)
				default:
					a.Set(k, 1+r.Intn(times))
				}
				sound(t, &a.timers)
			}
		}
	}
}

// TestP16_2TheHeapsOrder: the row is sifted by the function in the heap's field, whatever it says.
func TestP16_2TheHeapsOrder(t *testing.T) {
	h := heap[int]{places: map[int]int{}, ahead: func(x, y timer[int]) bool { return x.at > y.at }}
	for k := range 50 {
		h.set(timer[int]{key: k, at: k * 7 % 50})
		sound(t, &h)
	}
	for at := 49; at >= 0; at-- {
		if x := h.take(0); x.at != at {
			t.Fatalf("the time %d, want %d", x.at, at)
		}
	}
}
