package play_test

import (
	"strconv"
	"strings"
	"testing"

	"annex/api"
	"annex/play"
)

// bytesThat are all bytes of which this holds.
func bytesThat(holds func(c byte) bool) string {
	var list []byte
	for c := range 256 {
		if holds(byte(c)) {
			list = append(list, byte(c))
		}
	}
	return string(list)
}

const (
	small   = "abcdefghijklmnopqrstuvwxyz"
	capital = "ABCDEFGHIJKLMNOPQRSTUVWXYZ"
	digits  = "0123456789"
	bares   = small + capital + digits + "_.-/"
	hexes   = digits + "abcdefABCDEF"
)

// TestP21_1EveryByteEverywhere: what may stand at each place of a line, and what may not.
func TestP21_1EveryByteEverywhere(t *testing.T) {
	plain := bytesThat(func(c byte) bool { return 0x20 <= c && c <= 0x7e && c != '"' && c != '\\' })
	all := bytesThat(func(byte) bool { return true })
	for _, place := range []struct{ ahead, behind, may string }{
		{"", "", bares + " \t#"},
		{" ", "a", bares + " \t#"},
		{"a", "", bares + " \t"},
		{"a", "a", bares + " \t"},
		{"a", " a", bares + " \t"},
		{"a ", "", bares + " \t#"},
		{`"`, `"`, plain},
		{`"a`, `a"`, plain},
		{`"\`, `"`, `"\`},
		{`"\`, `" a`, `"\`},
		{`"\x`, `0"`, hexes},
		{`"\x0`, `"`, hexes},
		{`"a"`, "", " \t"},
		{`"a"`, "a", " \t"},
		{`""`, "#", " \t"},
		{"#", "", all},
		{"a #", "a", all},
		{`"a" # "`, `\`, all},
	} {
		for c := range 256 {
			line := place.ahead + string([]byte{byte(c)}) + place.behind
			_, code := play.ParseCall(line)
			may := c != '\n' && strings.IndexByte(place.may, byte(c)) >= 0
			is(t, "whether "+strconv.Quote(line)+" is a line", code != api.ErrText, may)
			parsesCall(t, line)
			parses(t, line)
			parses(t, head+line)
		}
	}
}

// TestP21_1EveryByteOfAWord: each byte can be said in a word by its two hex digits, small or capital; and by itself, if it may be.
func TestP21_1EveryByteOfAWord(t *testing.T) {
	const small, capital = "0123456789abcdef", "0123456789ABCDEF"
	for c := range 256 {
		want := api.Op{Kind: api.OpCall, Call: api.Call{Op: api.Lookup, Path: "<" + string([]byte{byte(c)}) + ">"}}
		for _, high := range []string{small, capital} {
			for _, low := range []string{small, capital} {
				reads(t, `call 0 lookup "<\x`+string([]byte{high[c>>4], low[c&15]})+`>"`, want)
			}
		}
		if 0x20 <= c && c <= 0x7e && c != '"' && c != '\\' {
			reads(t, `call 0 lookup "<`+string([]byte{byte(c)})+`>"`, want)
		}
		if c == '"' || c == '\\' {
			reads(t, `call 0 lookup "<\`+string([]byte{byte(c)})+`>"`, want)
		}
	}
}

// TestP21_1EveryShortLine: all lines of a few characters of each sort.
func TestP21_1EveryShortLine(t *testing.T) {
	for _, s := range texts([]string{" ", "\t", "#", `"`, `\`, "x", "4", "-", "=", "\xff", "é"}, 4) {
		parsesCall(t, s)
		parsesCall(t, "lookup "+s)
		parses(t, s)
		parses(t, head+s)
	}
	for _, s := range texts([]string{" ", "#", `"`, `\`, "x", "4"}, 6) {
		parsesCall(t, "lookup "+s)
	}
}

// TestP21_1ManyWords: a line of many words is one; a word is as long as one likes.
func TestP21_1ManyWords(t *testing.T) {
	parsesAs(t, head+strings.Repeat("a ", 500000), 2, api.ErrWord)
	parsesAs(t, head+"boot"+strings.Repeat(" a", 500000), 2, api.ErrWords)
	parsesAs(t, head+"call 0 lookup"+strings.Repeat("\t\"\"", 300000), 2, api.ErrWords)
	long := strings.Repeat("ab/", 300000)
	reads(t, "call 0 lookup "+long, api.Op{Kind: api.OpCall, Call: api.Call{Op: api.Lookup, Path: long}})
	reads(t, "junk 7 "+strings.Repeat("fE", 500000), api.Op{Kind: api.OpJunk, A: 7, Data: []byte(strings.Repeat("\xfe", 500000))})
	reads(t, "call 0 write 0 0 \""+strings.Repeat(`\x00`, 250000)+`"`, api.Op{Kind: api.OpCall, Call: api.Call{Op: api.Write, Data: make([]byte, 250000)}})
	reads(t, "crash "+strings.Repeat("0", 900000), api.Op{Kind: api.OpCrash, Keep: make([]bool, 900000)})
	parsesAs(t, head+"tick "+strings.Repeat("1", 900000), 2, api.ErrNumber)
	parsesAs(t, head+"tick "+strings.Repeat("0", 900000), 2, api.ErrNumber)
}

// TestP21_1Lines: the last one may have no newline; lines without words are counted all the same; nothing but a newline ends a line.
func TestP21_1Lines(t *testing.T) {
	for _, empty := range []string{"", "\n", "\n\n", " \n\t\n", "# so\n", " # \"\n#\n", "\t#\xff\x00\n"} {
		many := strings.Count(empty, "\n")
		parsesAs(t, empty, 0, api.ErrPlay)
		parsesAs(t, empty+head, 0, api.OK)
		parsesAs(t, empty+head+empty+"boot", 0, api.OK)
		parsesAs(t, empty+head+empty+"boot\n"+empty, 0, api.OK)
		parsesAs(t, empty+"boot", many+1, api.ErrPlay)
		parsesAs(t, empty+"="+empty, many+1, api.ErrText)
		parsesAs(t, empty+head+empty+"bo\n"+empty+"=", 2*many+2, api.ErrWord)
		parsesAs(t, empty+head+empty+"boot\n"+empty+"=", 3*many+3, api.ErrText)
	}
	parsesAs(t, head+"boot\r\n", 2, api.ErrText)
	parsesAs(t, head+"boot\x00", 2, api.ErrText)
	parsesAs(t, head+"boot\vlook", 2, api.ErrText)
	parsesAs(t, head+"boot # \r\vlook", 0, api.OK)
	parsesAs(t, head+"call 0 lookup \"a\nb\"", 2, api.ErrText)
	parsesAs(t, head+"call 0 lookup \\\na", 2, api.ErrText)
	parsesAs(t, "world 2 4 4 16 32 8192\n200 40 2 8 64", 1, api.ErrWords)
}
