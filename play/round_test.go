package play_test

import (
	"fmt"
	"math/rand"
	"reflect"
	"strings"
	"testing"

	"annex/api"
	"annex/play"
)

// aText is a text by chance.
func aText(r *rand.Rand) string {
	list := make([]byte, r.Intn(6))
	for i := range list {
		switch r.Intn(3) {
		case 0:
			list[i] = byte(r.Intn(256))
		case 1:
			list[i] = bares[r.Intn(len(bares))]
		default:
			list[i] = " \t\n\"\\#x0="[r.Intn(9)]
		}
	}
	return string(list)
}

func aNumber(r *rand.Rand) int {
	switch r.Intn(4) {
	case 0:
		return r.Intn(3)
	case 1:
		return most - r.Intn(3)
	}
	return r.Intn(1 << r.Intn(31))
}

// aStep is one that may be, by chance.
func aStep(r *rand.Rand) api.Op {
	samples := sampleSteps()
	o := samples[r.Intn(len(samples))]
	for _, place := range []*int{&o.A, &o.K, &o.M, &o.X, &o.Call.H, &o.Call.H2, &o.Call.Off, &o.Call.Len} {
		if *place > 0 {
			*place = aNumber(r)
		}
	}
	for _, place := range []*string{&o.Call.Path, &o.Call.Name, &o.Call.Name2} {
		if *place != "" {
			*place = aText(r)
		}
	}
	if o.Data != nil {
		o.Data = []byte(aText(r))
	}
	if o.Call.Data != nil {
		o.Call.Data = []byte(aText(r))
	}
	if o.Keep != nil {
		o.Keep = make([]bool, r.Intn(9))
		for i := range o.Keep {
			o.Keep[i] = r.Intn(2) > 0
		}
	}
	return o
}

func aPlay(r *rand.Rand, many int) api.Play {
	var p api.Play
	for _, place := range worldPlaces(&p) {
		*place = aNumber(r)
	}
	for range many {
		p.Ops = append(p.Ops, aStep(r))
	}
	return p
}

// readsBack asks that Print writes the play, and that what it writes is the play.
func readsBack(t *testing.T, p api.Play) string {
	t.Helper()
	text, code := play.Print(p)
	is(t, "Print's error", code, api.OK)
	back, line, code := play.Parse(text)
	is(t, "Parse's error", code, api.OK)
	is(t, "Parse's line", line, 0)
	if !reflect.DeepEqual(tidy(back), tidy(p)) {
		t.Fatalf("Parse(%s): %.300v, want %.300v", short(text), back, p)
	}
	return text
}

// TestP21_7PlaysByChance: what Print writes is read as the play.
func TestP21_7PlaysByChance(t *testing.T) {
	for seed := range 300 {
		r := rand.New(rand.NewSource(int64(seed)))
		p := aPlay(r, r.Intn(40))
		prints(t, p)
		parses(t, readsBack(t, p))
	}
	p := aPlay(rand.New(rand.NewSource(1)), 2000)
	readsBack(t, p)
}

// TestP21_7EveryStep: also each step alone, with each text of every sort.
func TestP21_7EveryStep(t *testing.T) {
	for _, o := range sampleSteps() {
		readsBack(t, playOf(o))
		for _, s := range anyTexts() {
			other := o
			for _, place := range []*string{&other.Call.Path, &other.Call.Name, &other.Call.Name2} {
				if *place != "" {
					*place = s
				}
			}
			if other.Call.Data != nil {
				other.Call.Data = []byte(s)
			}
			if other.Data != nil {
				other.Data = []byte(s)
			}
			readsBack(t, playOf(other))
			if o.Kind != api.OpCall {
				continue
			}
			text, code := play.PrintCall(other.Call)
			is(t, "PrintCall's error", code, api.OK)
			c, code := play.ParseCall(text)
			is(t, "ParseCall's error", code, api.OK)
			is(t, "whether the call is the one that was written", reflect.DeepEqual(tidyCall(c), tidyCall(other.Call)), true)
		}
	}
}

// quoting writes a word in some way by chance.
func quoting(r *rand.Rand, s string) string {
	if bare.MatchString(s) && r.Intn(2) > 0 {
		return s
	}
	var b strings.Builder
	for _, c := range []byte(s) {
		switch {
		case c < 0x20 || c > 0x7e || r.Intn(4) == 0:
			fmt.Fprintf(&b, []string{`\x%02x`, `\x%02X`}[r.Intn(2)], c)
		case c == '"' || c == '\\':
			b.WriteString(`\` + string(rune(c)))
		default:
			b.WriteByte(c)
		}
	}
	return `"` + b.String() + `"`
}

// blanks are some, by chance.
func blanks(r *rand.Rand, least int) string {
	var b strings.Builder
	for range least + r.Intn(3) {
		b.WriteByte(" \t"[r.Intn(2)])
	}
	return b.String()
}

// rest is what may stand behind a line's last word, by chance.
func rest(r *rand.Rand) string {
	switch r.Intn(3) {
	case 0:
		return blanks(r, 0)
	case 1:
		return blanks(r, 1) + "#" + strings.ReplaceAll(aText(r), "\n", "")
	}
	return ""
}

// loose writes a play's text with the same words in the same lines: with other blanks, comments, lines without words and ways of quoting.
func loose(r *rand.Rand, text string) string {
	var b strings.Builder
	for line := range strings.Lines(text) {
		for r.Intn(3) == 0 {
			b.WriteString([]string{"", " \t", "#", " # \"\xff"}[r.Intn(4)] + "\n")
		}
		b.WriteString(looseLine(r, strings.TrimSuffix(line, "\n")) + "\n")
	}
	if r.Intn(2) > 0 {
		return strings.TrimSuffix(b.String(), "\n")
	}
	return b.String() + blanks(r, 0)
}

func looseLine(r *rand.Rand, line string) string {
	words, _ := tellWords(line)
	var b strings.Builder
	b.WriteString(blanks(r, 0))
	for i, w := range words {
		if i > 0 {
			b.WriteString(blanks(r, 1))
		}
		b.WriteString(quoting(r, w))
	}
	return b.String() + rest(r)
}

// TestP21_7LooseTexts: whatever says nothing changes nothing, and Print of what is read is the text without it.
func TestP21_7LooseTexts(t *testing.T) {
	for seed := range 300 {
		r := rand.New(rand.NewSource(int64(1000 + seed)))
		p := aPlay(r, r.Intn(20))
		text := readsBack(t, p)
		for range 5 {
			other := loose(r, text)
			back, line, code := play.Parse(other)
			if code != api.OK || line != 0 || !reflect.DeepEqual(tidy(back), tidy(p)) {
				t.Fatalf("Parse(%s): %.300v, line %d, %d, want %.300v", short(other), back, line, code, p)
			}
			printsAs(t, back, text, api.OK)
		}
	}
}

// TestP21_7LooseCalls: of calls too.
func TestP21_7LooseCalls(t *testing.T) {
	for seed := range 2000 {
		r := rand.New(rand.NewSource(int64(seed)))
		o := aStep(r)
		if o.Kind != api.OpCall {
			continue
		}
		text, code := play.PrintCall(o.Call)
		is(t, "PrintCall's error", code, api.OK)
		for range 5 {
			other := looseLine(r, text)
			c, code := play.ParseCall(other)
			if code != api.OK || !reflect.DeepEqual(tidyCall(c), tidyCall(o.Call)) {
				t.Fatalf("ParseCall(%s): %.300v, %d, want %.300v", short(other), c, code, o.Call)
			}
			printsCallAs(t, c, text, api.OK)
		}
	}
}

// TestP21_7LinesNumbers: lines without words change a fault's line, and not its error.
func TestP21_7LinesNumbers(t *testing.T) {
	for seed := range 300 {
		r := rand.New(rand.NewSource(int64(seed)))
		text, _ := play.Print(aPlay(r, 1+r.Intn(5)))
		bad := []string{"tack", "tick", "tick x", "junk 0 x", "="}[r.Intn(5)]
		_, _, want := play.Parse(head + bad)
		other := loose(r, text)
		lines := strings.Count(strings.TrimRight(other, " \t"), "\n")
		if !strings.HasSuffix(strings.TrimRight(other, " \t"), "\n") {
			other += "\n"
			lines++
		}
		parsesAs(t, other+bad, lines+1, want)
	}
}

// TestP21_7TextsByChance: texts with a few bytes changed, left out or put in: what is read is written so that it is read again.
func TestP21_7TextsByChance(t *testing.T) {
	read := 0
	for seed := range 10000 {
		r := rand.New(rand.NewSource(int64(seed)))
		whole, _ := play.Print(aPlay(r, r.Intn(6)))
		text := []byte(loose(r, whole))
		for range 1 + r.Intn(3) {
			at := r.Intn(len(text) + 1)
			b := []byte(" \t\n\"\\#x0=/a1-\xff\x00")[r.Intn(15)]
			if n := r.Intn(3); n == 0 || at == len(text) {
				text = append(text[:at], append([]byte{b}, text[at:]...)...)
			} else if n == 1 {
				text[at] = b
			} else {
				text = append(text[:at], text[at+1:]...)
			}
		}
		parses(t, string(text))
		if p, _, code := play.Parse(string(text)); code == api.OK {
			read++
			readsBack(t, p)
		}
	}
	is(t, "whether many were read", read > 1000, true)
}

// TestP21_7TooLong: what is read may be too long to be written, and then that is told.
func TestP21_7TooLong(t *testing.T) {
	for _, x := range []struct{ line, behind string }{
		{`call 0 lookup "=`, `"`},
		{"call 0 create 0 ", ""},
		{"crash ", ""},
		{"junk 0 ", ""},
		{`junk 0 "`, `"`},
	} {
		// An even number of zeros, for junk.
		many := (1<<20 - len(head) - len(x.line) - len(x.behind)) / 2 * 2
		p, line, code := play.Parse(head + x.line + strings.Repeat("0", many) + x.behind)
		is(t, "the error", code, api.OK)
		is(t, "the line", line, 0)
		prints(t, p)
	}
	// The newline behind the last step has no room.
	p, _, code := play.Parse(head + "crash " + strings.Repeat("0", 1<<20-len(head)-len("crash ")))
	is(t, "the error", code, api.OK)
	printsAs(t, p, "", api.ErrMany)
	p, _, code = play.Parse(head + "crash " + strings.Repeat("0", 1<<20-len(head)-len("crash \n")))
	is(t, "the error", code, api.OK)
	readsBack(t, p)
	p, _, code = play.Parse(strings.Repeat("\n", 1<<20-len(head)) + head)
	is(t, "the error", code, api.OK)
	readsBack(t, p)
}
