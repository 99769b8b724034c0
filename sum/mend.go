package sum

// Mend finds one byte with whose change b has the sum want: its place and the byte; -1, 0, true: b has it already.
func Mend(b []byte, want uint64) (int, byte, bool) {
	begins := beginnings(b)
	if begins[len(b)] == want {
		return -1, 0, true
	}
	finishes := ends(b, want)
	for i, x := range b {
		if change, ok := onlyLowest(begins[i] ^ finishes[i]); ok {
			return i, x ^ change, true
		}
	}
	return 0, 0, false
}

// beginnings has at the place i the sum of the first i bytes of b.
func beginnings(b []byte) []uint64 {
	sums := make([]uint64, len(b)+1)
	sums[0] = start
	for i, x := range b {
		sums[i+1] = step(sums[i], x)
	}
	return sums
}

// ends has at the place i the number from which the bytes of b from i on lead to want.
func ends(b []byte, want uint64) []uint64 {
	inverse := inverseOfPrime()
	sums := make([]uint64, len(b)+1)
	sums[len(b)] = want
	for i := len(b) - 1; i >= 0; i-- {
		sums[i] = undo(sums[i+1], b[i], inverse)
	}
	return sums
}

// onlyLowest answers the lowest byte of a number that has no other one: a step's byte reaches just that far, so no greater difference can be mended by it.
func onlyLowest(difference uint64) (byte, bool) {
	bytes := lowestFirst(difference)
	if bytes != [8]byte{bytes[0]} {
		return 0, false
	}
	return bytes[0], true
}

func lowestFirst(x uint64) [8]byte {
	var bytes [8]byte
	for i := range bytes {
		bytes[i] = byte(x >> (8 * i))
	}
	return bytes
}
