package play_test

import (
	"slices"
	"strings"
	"testing"

	"annex/api"
	"annex/play"
)

// sampleCalls has the words of a line for each call, and the calls.
func sampleCalls() (lines []string, list []api.Call) {
	for _, line := range sampleLines()[:10] {
		lines = append(lines, strings.TrimPrefix(line, "call 1 "))
	}
	for _, o := range sampleSteps()[:10] {
		list = append(list, o.Call)
	}
	return lines, list
}

// TestP21_4Calls: each has its fields; blanks, a comment and ways of quoting change nothing.
func TestP21_4Calls(t *testing.T) {
	lines, want := sampleCalls()
	for i, line := range lines {
		parsesCallAs(t, line, want[i], api.OK)
		parsesCallAs(t, " \t"+strings.ReplaceAll(line, " ", "\t ")+" ", want[i], api.OK)
		parsesCallAs(t, line+" # so \xff", want[i], api.OK)
		parsesCallAs(t, `"`+strings.ReplaceAll(line, " ", `" "`)+`"`, want[i], api.OK)
	}
	parsesCallAs(t, `"\x67etattr" "\x37"`, api.Call{Op: api.Getattr, H: 7}, api.OK)
	parsesCallAs(t, "lookup a#", api.Call{}, api.ErrText)
	parsesCallAs(t, `lookup "a"#`, api.Call{}, api.ErrText)
	parsesCallAs(t, "lookup # a", api.Call{}, api.ErrWords)
}

// TestP21_4EveryWord: each word of each call in turn is any of the odd ones, is missing, or is there twice.
func TestP21_4EveryWord(t *testing.T) {
	lines, _ := sampleCalls()
	for _, line := range lines {
		words := strings.Split(line, " ")
		for at := range words {
			for _, w := range oddWords() {
				other := slices.Clone(words)
				other[at] = w
				parsesCall(t, strings.Join(other, " "))
			}
			parsesCall(t, strings.Join(slices.Insert(slices.Clone(words), at, words[at]), " "))
			parsesCall(t, strings.Join(slices.Delete(slices.Clone(words), at, at+1), " "))
		}
	}
}

// TestP21_4Errors: one by one, and of two the chapter's first.
func TestP21_4Errors(t *testing.T) {
	for text, want := range map[string]api.Errno{
		"":                    api.ErrWords,
		" \t":                 api.ErrWords,
		"# getattr 1":         api.ErrWords,
		"pit":                 api.ErrWord,
		"pit 1 2 3":           api.ErrWord,
		"call 0 getattr 1":    api.ErrWord,
		"tick 1":              api.ErrWord,
		"world":               api.ErrWord,
		`""`:                  api.ErrWord,
		"Getattr 1":           api.ErrWord,
		"getattrs 1":          api.ErrWord,
		"getatt 1":            api.ErrWord,
		`"getattr "  1`:       api.ErrWord,
		"getattr":             api.ErrWords,
		"getattr 1 2":         api.ErrWords,
		"getattr x y":         api.ErrWords,
		"getattr # 1":         api.ErrWords,
		"getattr x":           api.ErrNumber,
		"getattr 01":          api.ErrNumber,
		"getattr -1":          api.ErrNumber,
		`getattr ""`:          api.ErrNumber,
		"getattr 1073741824":  api.OK,
		"getattr 1073741825":  api.ErrNumber,
		"rename 0 a x b":      api.ErrNumber,
		"rename x a 0 b":      api.ErrNumber,
		"readdir 0 a x":       api.ErrNumber,
		"read 0 x 0":          api.ErrNumber,
		"read 0 0 x":          api.ErrNumber,
		"write 0 x 0":         api.ErrNumber,
		"write 0 0 x":         api.OK,
		"lookup x":            api.OK,
		`lookup ""`:           api.OK,
		"getattr 1\n":         api.ErrText,
		"\ngetattr 1":         api.ErrText,
		"getattr\n1":          api.ErrText,
		"\n":                  api.ErrText,
		"# so\n":              api.ErrText,
		"pit #\n":             api.ErrText,
		"lookup \"a\nb\"":     api.ErrText,
		`lookup "a\x0ab"`:     api.OK,
		"getattr \"1":         api.ErrText,
		"getattr 1 =":         api.ErrText,
		"pit \"":              api.ErrText,
		"getattr 1\r":         api.ErrText,
		"\x00":                api.ErrText,
		"getattr 1 # \x00 \r": api.OK,
	} {
		_, code := play.ParseCall(text)
		is(t, "the error of "+text, code, want)
		parsesCall(t, text)
	}
}

// TestP21_4TooLong: more than 2^20 bytes, whatever they are; ahead of all else.
func TestP21_4TooLong(t *testing.T) {
	const whole = 1 << 20
	want := api.Call{Op: api.Getattr, H: 1}
	for _, fill := range []string{" ", "\t", "#"} {
		text := "getattr 1 " + strings.Repeat(fill, whole-10)
		parsesCallAs(t, text, want, api.OK)
		parsesCallAs(t, text+fill, api.Call{}, api.ErrMany)
	}
	parsesCallAs(t, strings.Repeat(" ", whole), api.Call{}, api.ErrWords)
	for fill, want := range map[string]api.Errno{"\n": api.ErrText, "=": api.ErrText, "x": api.ErrWord, "\xff": api.ErrText} {
		parsesCallAs(t, strings.Repeat(fill, whole), api.Call{}, want)
		parsesCallAs(t, strings.Repeat(fill, whole+1), api.Call{}, api.ErrMany)
	}
	long := strings.Repeat("a", whole-len("lookup "))
	parsesCallAs(t, "lookup "+long, api.Call{Op: api.Lookup, Path: long}, api.OK)
	parsesCallAs(t, "lookup  "+long, api.Call{}, api.ErrMany)
}

// TestP21_5Calls: words with one space between, each field at its place.
func TestP21_5Calls(t *testing.T) {
	lines, list := sampleCalls()
	for i, c := range list {
		printsCallAs(t, c, lines[i], api.OK)
		if c.Op != api.Write {
			c.Data = make([]byte, 0, 3)
			printsCallAs(t, c, lines[i], api.OK)
		}
	}
	for _, s := range anyTexts() {
		w := tellText(s)
		printsCallAs(t, api.Call{Op: api.Lookup, Path: s}, "lookup "+w, api.OK)
		printsCallAs(t, api.Call{Op: api.Write, H: 1, Off: 2, Data: []byte(s)}, "write 1 2 "+w, api.OK)
		printsCallAs(t, api.Call{Op: api.Create, H: 1, Name: s}, "create 1 "+w, api.OK)
		printsCallAs(t, api.Call{Op: api.Remove, H: 1, Name: s}, "remove 1 "+w, api.OK)
		printsCallAs(t, api.Call{Op: api.Mkdir, H: 1, Name: s}, "mkdir 1 "+w, api.OK)
		printsCallAs(t, api.Call{Op: api.Rmdir, H: 1, Name: s}, "rmdir 1 "+w, api.OK)
		printsCallAs(t, api.Call{Op: api.Rename, H: 1, Name: s, H2: 2, Name2: "-"}, "rename 1 "+w+" 2 -", api.OK)
		printsCallAs(t, api.Call{Op: api.Rename, H: 1, Name: "-", H2: 2, Name2: s}, "rename 1 - 2 "+w, api.OK)
		printsCallAs(t, api.Call{Op: api.Readdir, H: 1, Name: s, Len: 2}, "readdir 1 "+w+" 2", api.OK)
	}
	printsCallAs(t, api.Call{Op: api.Write}, `write 0 0 ""`, api.OK)
	printsCallAs(t, api.Call{Op: api.Write, Data: []byte{}}, `write 0 0 ""`, api.OK)
}

// TestP21_5EveryNumber: each field of each call, at the edges.
func TestP21_5EveryNumber(t *testing.T) {
	_, list := sampleCalls()
	for _, sample := range list {
		for i, place := range callPlaces(&sample) {
			own := *place != 0
			for _, n := range edges() {
				want := api.OK
				switch {
				case !own && n != 0:
					want = api.ErrSpare
				case n < 0 || n > most:
					want = api.ErrNumber
				}
				c := sample
				*callPlaces(&c)[i] = n
				printsCall(t, c)
				_, code := play.PrintCall(c)
				is(t, "the error", code, want)
			}
		}
	}
}

// TestP21_5Spare: a text or data that the call does not have.
func TestP21_5Spare(t *testing.T) {
	_, list := sampleCalls()
	for _, sample := range list {
		for _, fill := range fills()[2:] {
			o := api.Op{Call: sample}
			fill(&o)
			printsCall(t, o.Call)
			o.Call = api.Call{Op: sample.Op, H: -1, Off: -1}
			fill(&o)
			printsCall(t, o.Call)
		}
	}
	printsCallAs(t, api.Call{Op: api.Lookup, H: 1}, "", api.ErrSpare)
	printsCallAs(t, api.Call{Op: api.Lookup, Name: "a"}, "", api.ErrSpare)
	printsCallAs(t, api.Call{Op: api.Read, Data: []byte{0}}, "", api.ErrSpare)
	printsCallAs(t, api.Call{Op: api.Write, Len: 1}, "", api.ErrSpare)
	printsCallAs(t, api.Call{Op: api.Create, Name2: "a"}, "", api.ErrSpare)
	printsCallAs(t, api.Call{Op: api.Mkdir, H2: 1}, "", api.ErrSpare)
	printsCallAs(t, api.Call{Op: api.Rename, Path: "/"}, "", api.ErrSpare)
	printsCallAs(t, api.Call{Op: api.Readdir, Off: 1}, "", api.ErrSpare)
}

// TestP21_5Errors: the Op ahead of spare fields, these ahead of the numbers, and the length last.
func TestP21_5Errors(t *testing.T) {
	for _, op := range append(edges(), 2, 11, 12, 266) {
		if op >= 1 && op <= 10 {
			continue
		}
		printsCallAs(t, api.Call{Op: op}, "", api.ErrWord)
		printsCallAs(t, api.Call{Op: op, H: -1, Path: "a", Data: []byte{1}}, "", api.ErrWord)
	}
	printsCallAs(t, api.Call{Op: api.Getattr, H: -1, H2: -1}, "", api.ErrSpare)
	printsCallAs(t, api.Call{Op: api.Getattr, H: -1, Data: []byte{1}}, "", api.ErrSpare)
	printsCallAs(t, api.Call{Op: api.Getattr, H: -1}, "", api.ErrNumber)
	printsCallAs(t, api.Call{Op: api.Getattr, H: most + 1}, "", api.ErrNumber)
	printsCallAs(t, api.Call{Op: api.Getattr, H: most}, "getattr 1073741824", api.OK)
	long := strings.Repeat("x", 1<<20+1)
	printsCallAs(t, api.Call{Op: 11, Name: long}, "", api.ErrWord)
	printsCallAs(t, api.Call{Op: api.Getattr, Name: long}, "", api.ErrSpare)
	printsCallAs(t, api.Call{Op: api.Create, Name: long, H: -1}, "", api.ErrNumber)
	printsCallAs(t, api.Call{Op: api.Create, Name: long}, "", api.ErrMany)
}

// TestP21_5TooLong: 2^20 bytes may be.
func TestP21_5TooLong(t *testing.T) {
	const whole = 1 << 20
	for _, fill := range []string{"a", "\\", "\x00"} {
		each := len(tellText(fill+fill)) - len(tellText(fill))
		for _, x := range []struct {
			text string
			of   func(s string) api.Call
		}{
			{"lookup ", func(s string) api.Call { return api.Call{Op: api.Lookup, Path: s} }},
			{"mkdir 7 ", func(s string) api.Call { return api.Call{Op: api.Mkdir, H: 7, Name: s} }},
			{"write 1 2 ", func(s string) api.Call { return api.Call{Op: api.Write, H: 1, Off: 2, Data: []byte(s)} }},
			{"rename 0 b 0 ", func(s string) api.Call { return api.Call{Op: api.Rename, Name: "b", Name2: s} }},
		} {
			most := (whole - len(x.text) - (len(tellText(fill)) - each)) / each
			for _, n := range []int{most - 1, most, most + 1, most + 2, whole, whole + 1} {
				c := x.of(strings.Repeat(fill, n))
				printsCall(t, c)
				text, code := play.PrintCall(c)
				is(t, "whether it may be", code == api.OK, n <= most)
				is(t, "whether it is the longest", len(text) > whole-each, n == most)
			}
		}
	}
	_, code := play.PrintCall(api.Call{Op: api.Write, Data: make([]byte, 1<<26)})
	is(t, "the error", code, api.ErrMany)
}
