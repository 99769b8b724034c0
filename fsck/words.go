package fsck

import (
	"strconv"
	"strings"
)

func joined(words []string) string { return strings.Join(words, " ") }

func decimal(n int) string { return strconv.Itoa(n) }

// hex writes so many digits at least.
func hex(n uint64, digits int) string {
	s := strconv.FormatUint(n, 16)
	return strings.Repeat("0", max(digits-len(s), 0)) + s
}

// plain is a name as it stands in a line: a word, whatever bytes it has.
func plain(name string) string {
	var b strings.Builder
	for _, x := range []byte(name) {
		if x > ' ' && x <= '~' && x != '%' {
			b.WriteByte(x)
		} else {
			b.WriteString("%" + hex(uint64(x), 2))
		}
	}
	return b.String()
}
