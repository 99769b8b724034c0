package play_test

import (
	"strings"
	"testing"

	"annex/api"
	"annex/play"
)

// TestP21_6EveryByte: alone, and among bytes that may stand in a bare word.
func TestP21_6EveryByte(t *testing.T) {
	for c := range 256 {
		b := string([]byte{byte(c)})
		for _, s := range []string{b, "a" + b, b + "a", "a" + b + "/", b + b} {
			is(t, "Text", play.Text(s), tellText(s))
		}
		bare := strings.Contains(bares, b)
		is(t, "whether it is bare", play.Text(b) == b, bare)
		is(t, "whether it is quoted", strings.HasPrefix(play.Text("a"+b), `"`), !bare)
	}
	all := bytesThat(func(byte) bool { return true })
	is(t, "Text", play.Text(all), tellText(all))
	is(t, "Text", play.Text(bares), bares)
}

// TestP21_6EachSort: small digits, and nothing but the quote and the backslash behind a backslash of its own.
func TestP21_6EachSort(t *testing.T) {
	for s, want := range map[string]string{
		"":             `""`,
		"\"":           `"\""`,
		`\`:            `"\\"`,
		`\x00`:         `"\\x00"`,
		"\x00":         `"\x00"`,
		"\t\n\r":       `"\x09\x0a\x0d"`,
		"\x1f \x7e":    `"\x1f ~"`,
		"\x7f\x80\xff": `"\x7f\x80\xff"`,
		"é":            `"\xc3\xa9"`,
		"'`$&":         "\"'`$&\"",
		"#":            `"#"`,
		"a#":           `"a#"`,
		"a=b":          `"a=b"`,
		"-1":           "-1",
		"0":            "0",
		"A_z.-/9":      "A_z.-/9",
		"@[^{":         `"@[^{"`,
		"+,:;":         `"+,:;"`,
	} {
		is(t, "Text", play.Text(s), want)
	}
}

// TestP21_6EveryShortText: and each is a word that is read as the text.
func TestP21_6EveryShortText(t *testing.T) {
	for _, s := range texts([]string{" ", "\t", "\n", "#", `"`, `\`, "x", "4", "-", "=", "\xff", "\x00"}, 4) {
		w := play.Text(s)
		is(t, "Text", w, tellText(s))
		c, code := play.ParseCall("lookup " + w)
		is(t, "the error", code, api.OK)
		is(t, "what is read", c.Path, s)
	}
}

// TestP21_6Long: no text is too long for it.
func TestP21_6Long(t *testing.T) {
	const many = 1<<20 + 1
	is(t, "whether it is bare", play.Text(strings.Repeat("a", many)) == strings.Repeat("a", many), true)
	is(t, "whether it is quoted", play.Text(strings.Repeat("\xff", many)) == `"`+strings.Repeat(`\xff`, many)+`"`, true)
	is(t, "whether it is quoted", play.Text(strings.Repeat("a", many)+"=") == `"`+strings.Repeat("a", many)+`="`, true)
}
