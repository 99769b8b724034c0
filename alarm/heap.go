package alarm

// timer is a key and its time.
type timer[K comparable] struct {
	key K
	at  int
}

// heap is a row in which no timer is ahead of the one above it: above the places 2 i + 1 and 2 i + 2 is the place i.
type heap[K comparable] struct {
	row    []timer[K]
	places map[K]int // where in the row a key stands
	ahead  func(x, y timer[K]) bool
	gone   int // how many were taken out since the row and the map were made
}

// set lays x anew also where its key is there: a key that is equal may be other memory, or the other zero of the floats.
func (h *heap[K]) set(x timer[K]) {
	i, ok := h.places[x.key]
	if !ok {
		i = len(h.row)
		h.row = append(h.row, x)
	}
	h.settle(i, x)
}

// take takes the timer at the place i out; the last one of the row fills the gap.
func (h *heap[K]) take(i int) timer[K] {
	x := h.row[i]
	end := len(h.row) - 1
	last := h.row[end]
	h.row[end] = timer[K]{} // the row's spare room would keep a text's memory
	h.row = h.row[:end]
	delete(h.places, x.key)
	h.gone++
	if i < end {
		h.settle(i, last)
	}
	return x
}

// settle lays x into the row, whose place i is a gap; what is in its way moves into the gap.
func (h *heap[K]) settle(i int, x timer[K]) {
	i = h.rise(i, x)
	i = h.sink(i, x)
	h.lay(i, x)
}

// rise moves the gap up, as far as x is ahead of what is there, and tells where it is then.
func (h *heap[K]) rise(i int, x timer[K]) int {
	for i > 0 && h.ahead(x, h.row[above(i)]) {
		h.lay(i, h.row[above(i)])
		i = above(i)
	}
	return i
}

// sink moves the gap down, as far as something there is ahead of x, and tells where it is then.
func (h *heap[K]) sink(i int, x timer[K]) int {
	for c := h.below(i); c < len(h.row) && h.ahead(h.row[c], x); c = h.below(i) {
		h.lay(i, h.row[c])
		i = c
	}
	return i
}

// lay is the one way into a place, so that the map always says what the row is.
func (h *heap[K]) lay(i int, x timer[K]) {
	h.row[i] = x
	h.places[x.key] = i
}

// shrink makes the row and the map anew when more have gone than stay: of themselves both would keep the room of the most keys that there ever were.
func (h *heap[K]) shrink() {
	if h.gone <= len(h.row) {
		return
	}
	row := make([]timer[K], len(h.row))
	copy(row, h.row)
	places := make(map[K]int, len(row))
	for i, x := range row {
		places[x.key] = i
	}
	h.row, h.places, h.gone = row, places, 0
}

func above(i int) int { return (i - 1) / 2 }

// below is of the two places below i the one whose timer is ahead; behind the row's end, if there are none.
func (h *heap[K]) below(i int) int {
	c := 2*i + 1
	if c+1 < len(h.row) && h.ahead(h.row[c+1], h.row[c]) {
		c++
	}
	return c
}
