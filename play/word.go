package play

// What a line may go on with.
const (
	atGap     = iota // a word, a blank or a comment
	inBare           // more of a bare word, or a blank
	inQuoted         // more of a quoted word, or its end
	atEscape         // what was escaped
	atHigh           // the first hex digit of a byte
	atLow            // the second one
	behind           // a blank: a quoted word has ended
	inComment        // anything
)

// reading is how far a line has been read.
type reading struct {
	state int
	words []string
	word  []byte // the one that has begun
	high  byte   // of a byte of which one hex digit has been read
}

// wordsOf takes a line apart; false, if it is not words, blanks and comment.
func wordsOf(line string) ([]string, bool) {
	var s reading
	// A byte that is no ASCII comes as a rune that may stand in a comment alone, be it UTF-8 or not: going by runes refuses just the bytes that may not be.
	for _, r := range line {
		if s.state == inComment {
			break
		}
		if !s.take(r) {
			return nil, false
		}
	}
	if s.state == inBare {
		s.endWord(atGap)
	}
	return s.words, s.state == atGap || s.state == behind || s.state == inComment
}

// take goes on by a character; false, if it may not stand there.
func (s *reading) take(r rune) bool {
	switch s.state {
	case atGap:
		return s.begin(r)
	case inBare:
		return s.goOn(r)
	case inQuoted:
		return s.quote(r)
	case atEscape:
		return s.escape(r)
	case atHigh:
		high, ok := hexDigit(r)
		s.high, s.state = high, atLow
		return ok
	case atLow:
		low, ok := hexDigit(r)
		s.put(s.high<<4|low, inQuoted)
		return ok
	}
	s.state = atGap
	return isBlank(r)
}

func (s *reading) begin(r rune) bool {
	switch {
	case isBlank(r):
		return true
	case r == '#':
		s.state = inComment
		return true
	case r == '"':
		s.state = inQuoted
		return true
	}
	return s.goOn(r)
}

func (s *reading) goOn(r rune) bool {
	if isBlank(r) {
		s.endWord(atGap)
		return true
	}
	s.put(byte(r), inBare)
	return isBare(r)
}

func (s *reading) quote(r rune) bool {
	switch r {
	case '"':
		s.endWord(behind)
		return true
	case '\\':
		s.state = atEscape
		return true
	}
	s.put(byte(r), inQuoted)
	return isPlain(r)
}

func (s *reading) escape(r rune) bool {
	if r == 'x' {
		s.state = atHigh
		return true
	}
	s.put(byte(r), inQuoted)
	return r == '"' || r == '\\'
}

func (s *reading) put(b byte, state int) {
	s.word = append(s.word, b)
	s.state = state
}

func (s *reading) endWord(state int) {
	s.words = append(s.words, string(s.word))
	s.word = s.word[:0]
	s.state = state
}

// appendQuoted writes a byte as it stands in a quoted word.
func appendQuoted(word []byte, b byte) []byte {
	switch {
	case b == '"' || b == '\\':
		return append(word, '\\', b)
	case isPlain(rune(b)):
		return append(word, b)
	}
	return appendHex(append(word, '\\', 'x'), b)
}

func isBareWord(s string) bool {
	for i := range len(s) {
		if !isBare(rune(s[i])) {
			return false
		}
	}
	return s != ""
}

func isBlank(r rune) bool { return r == ' ' || r == '\t' }

func isBare(r rune) bool {
	switch r {
	case '_', '.', '-', '/':
		return true
	}
	return 'a' <= r && r <= 'z' || 'A' <= r && r <= 'Z' || '0' <= r && r <= '9'
}

// isPlain tells what may stand between quotes; the quote and the backslash only behind a backslash.
func isPlain(r rune) bool { return 0x20 <= r && r <= 0x7e }
