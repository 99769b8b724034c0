package play_test

import (
	"fmt"
	"reflect"
	"slices"
	"strings"
	"testing"

	"annex/api"
	"annex/play"
)

// TestP21_1World: eleven numbers, each for its own field.
func TestP21_1World(t *testing.T) {
	p, _, code := play.Parse("world 1 2 3 4 5 6 7 8 9 10 11")
	is(t, "the error", code, api.OK)
	is(t, "the shape", p.Shape, api.Shape{Clients: 1, Window: 2, Places: 3, Cache: 4, Inodes: 5, Quota: 6, Data: 7, Journal: 8})
	is(t, "the params", p.Params, api.Params{Min: 9, First: 10, Max: 11})
	is(t, "the steps", len(p.Ops), 0)
	parsesAs(t, "world"+strings.Repeat(" 1073741824", 11), 0, api.OK)
	parsesAs(t, "world"+strings.Repeat(" 0", 11), 0, api.OK)
	parsesAs(t, `"\x77orld"`+strings.Repeat(` "1"`, 11), 0, api.OK)
	for at := range 11 {
		for _, w := range oddWords() {
			words := slices.Repeat([]string{"7"}, 11)
			words[at] = w
			parses(t, "world "+strings.Join(words, " "))
		}
	}
	for many := range 30 {
		want := api.ErrWords
		if many == 11 {
			want = api.ErrNumber
		}
		parsesAs(t, "world"+strings.Repeat(" x", many)+"\nboot", 1, want)
	}
}

// TestP21_1NoWorld: the first line with words has the first word world.
func TestP21_1NoWorld(t *testing.T) {
	numbers := strings.Repeat(" 1", 11)
	for _, w := range []string{"World", "worl", "worlds", `""`, `"world "`, `"\x00"`, "play", "0", "boot", "call", "-"} {
		parsesAs(t, w+numbers+"\n", 1, api.ErrPlay)
		parsesAs(t, "#\n"+w+"\n"+head, 2, api.ErrPlay)
	}
	parsesAs(t, "world"+numbers+"=", 1, api.ErrText)
	parsesAs(t, "boot \"", 1, api.ErrText)
	parsesAs(t, head+head, 2, api.ErrWord)
	parsesAs(t, "\"world"+numbers+"\"", 1, api.ErrPlay)
}

// TestP21_1Steps: each has its fields, and no other ones.
func TestP21_1Steps(t *testing.T) {
	lines, want := sampleLines(), sampleSteps()
	for i, line := range lines {
		reads(t, line, want[i])
		reads(t, " \t"+strings.ReplaceAll(line, " ", " \t ")+"\t # boot", want[i])
		quoted := `"` + strings.ReplaceAll(line, " ", `" "`) + `"`
		reads(t, quoted, want[i])
	}
	p, _, code := play.Parse(head + strings.Join(lines, "\n"))
	is(t, "the error", code, api.OK)
	is(t, "whether all steps are there in their order", reflect.DeepEqual(tidy(p), playOf(want...)), true)
}

// TestP21_1EveryWord: each word of each step in turn is any of the odd ones, is missing, or is there twice.
func TestP21_1EveryWord(t *testing.T) {
	for _, line := range sampleLines() {
		words := strings.Split(line, " ")
		for at := range words {
			for _, w := range oddWords() {
				other := slices.Clone(words)
				other[at] = w
				parses(t, head+strings.Join(other, " "))
				parses(t, head+strings.Join(slices.Insert(other, at, words[at]), " "))
			}
			parses(t, head+strings.Join(slices.Delete(slices.Clone(words), at, at+1), " "))
		}
	}
}

// TestP21_1EveryNumber: the bounds, at each place of a number.
func TestP21_1EveryNumber(t *testing.T) {
	for _, line := range sampleLines() {
		words := strings.Split(line, " ")
		for at, w := range words {
			if len(w) != 1 || w < "0" || w > "9" {
				continue
			}
			for _, n := range edges() {
				words[at] = fmt.Sprint(n)
				want, at := api.OK, 0
				if n < 0 || n > 1073741824 {
					want, at = api.ErrNumber, 2
				}
				parsesAs(t, head+strings.Join(words, " "), at, want)
			}
			words[at] = w
		}
	}
}

// TestP21_1HowManyWords: of each name so many words, none of which is a number, bits or hex digits.
func TestP21_1HowManyWords(t *testing.T) {
	for name, many := range map[string]int{"close": 2, "tick": 1, "serve": 1, "give": 1, "drop": 1, "copy": 1, "flip": 3, "junk": 2, "arm": 1, "crash": 1, "boot": 0, "run": 1, "look": 0} {
		for n := range 8 {
			if n != many {
				parsesAs(t, head+name+strings.Repeat(" zz", n), 2, api.ErrWords)
				parsesAs(t, head+name+strings.Repeat(" 1", n), 2, api.ErrWords)
			} else if n > 0 {
				parsesAs(t, head+name+strings.Repeat(" zz", n), 2, api.ErrNumber)
			}
		}
	}
	for name, many := range map[string]int{"lookup": 1, "getattr": 1, "read": 3, "write": 3, "create": 2, "remove": 2, "mkdir": 2, "rmdir": 2, "rename": 4, "readdir": 3} {
		for n := range 8 {
			want := api.ErrWords
			if n == many {
				want = api.ErrNumber
			}
			parsesAs(t, head+"call x "+name+strings.Repeat(" zz", n), 2, want)
		}
	}
	parsesAs(t, head+"call", 2, api.ErrWords)
	parsesAs(t, head+"call x", 2, api.ErrWords)
	parsesAs(t, head+"call lookup", 2, api.ErrWords)
	parsesAs(t, head+"call x pit", 2, api.ErrWord)
}

// TestP21_1NoName: a step's name is no call's, a call's no step's, and each is just that word.
func TestP21_1NoName(t *testing.T) {
	names := []string{"", " ", "world", "0", "tic", "ticks", "Tick", "TICK", "tick ", "\x00", "tick\x00"}
	for _, line := range sampleLines() {
		words := strings.Split(line, " ")
		if words[0] == "call" {
			names = append(names, words[2], words[2]+"s", strings.ToUpper(words[2]), words[2][1:])
		} else {
			names = append(names, words[0]+"s", strings.ToUpper(words[0]), words[0][1:])
			for n := range 6 {
				parsesAs(t, head+"call 0 "+words[0]+strings.Repeat(" 1", n), 2, api.ErrWord)
			}
		}
	}
	for _, name := range names {
		for n := range 6 {
			parsesAs(t, head+play.Text(name)+strings.Repeat(" 1", n), 2, api.ErrWord)
		}
	}
	for n := range 6 {
		parsesAs(t, head+"call 0 call"+strings.Repeat(" 1", n), 2, api.ErrWord)
		parsesAs(t, head+`call 0 ""`+strings.Repeat(" 1", n), 2, api.ErrWord)
	}
}

// TestP21_1TheOrder: of two faults of a line the chapter's first one is told, whichever stands first.
func TestP21_1TheOrder(t *testing.T) {
	for line, want := range map[string]api.Errno{
		"tack =":               api.ErrText,
		"tick 1 2 \"":          api.ErrText,
		"tack 1 2 3":           api.ErrWord,
		"tick x y":             api.ErrWords,
		"call x":               api.ErrWords,
		"call x pit 1 2 3 4 5": api.ErrWord,
		"call x read y":        api.ErrWords,
		"call x read y 1 1":    api.ErrNumber,
		"call 1 read y 1 1":    api.ErrNumber,
		"call x read 1 1 1":    api.ErrNumber,
		"junk x y":             api.ErrNumber,
		"junk x":               api.ErrWords,
		"junk 1 y":             api.ErrHex,
		"junk server y":        api.ErrHex,
		"junk x 00":            api.ErrNumber,
		"crash 2 2":            api.ErrWords,
	} {
		parsesAs(t, head+line, 2, want)
		parsesAs(t, head+"boot\n"+line+"\n=", 3, want)
		parsesAs(t, head+line+"\ntack\n=", 2, want)
	}
}

// TestP21_1Junk: A and the bytes.
func TestP21_1Junk(t *testing.T) {
	for c := range 256 {
		b := byte(c)
		want := api.Op{Kind: api.OpJunk, A: c, Data: []byte{b, ^b}}
		reads(t, fmt.Sprintf("junk %d %02x%02x", c, b, ^b), want)
		reads(t, fmt.Sprintf("junk %d %02X%02x", c, b, ^b), want)
		reads(t, fmt.Sprintf(`junk "%d" "%02X%02X"`, c, b, ^b), want)
	}
	for _, s := range texts([]string{"0", "f", "A", "g", " ", "\xff"}, 5) {
		parses(t, head+"junk server "+play.Text(s))
		parses(t, head+"junk 3 "+play.Text(s))
	}
	for c := range 256 {
		parses(t, head+"junk 3 "+play.Text(string([]byte{byte(c), '0'})))
		parses(t, head+"junk 3 "+play.Text(string([]byte{'0', byte(c)})))
	}
	reads(t, `junk "\x73erver" "\x30\x61"`, api.Op{Kind: api.OpJunk, A: -1, Data: []byte{10}})
}

// TestP21_1Crash: the bits, in their order.
func TestP21_1Crash(t *testing.T) {
	for _, s := range texts([]string{"0", "1"}, 8) {
		var keep []bool
		for _, r := range s {
			keep = append(keep, r == '1')
		}
		reads(t, `crash "`+s+`"`, api.Op{Kind: api.OpCrash, Keep: keep})
	}
	for c := range 256 {
		for _, s := range []string{"", "0", "01"} {
			for _, behind := range []string{"", "1"} {
				w := s + string([]byte{byte(c)}) + behind
				if c == '0' || c == '1' {
					parsesAs(t, head+"crash "+play.Text(w), 0, api.OK)
				} else {
					parsesAs(t, head+"crash "+play.Text(w), 2, api.ErrNumber)
				}
			}
		}
	}
}

// TestP21_1AnyText: paths, names and data are any bytes, and nothing of them is judged.
func TestP21_1AnyText(t *testing.T) {
	for _, s := range []string{"", "/", "a", "//", "..", "\x00", "\n", "a\nb", "\"", "\\", "#", " ", "\xff\xfe", "é", strings.Repeat("x", 5000), "server", "0"} {
		w := play.Text(s)
		call := func(c api.Call) api.Op { return api.Op{Kind: api.OpCall, Call: c} }
		reads(t, "call 0 lookup "+w, call(api.Call{Op: api.Lookup, Path: s}))
		reads(t, "call 0 write 0 0 "+w, call(tidyCall(api.Call{Op: api.Write, Data: []byte(s)})))
		for op := api.Create; op <= api.Rmdir; op++ {
			name := []string{"create", "remove", "mkdir", "rmdir"}[op-api.Create]
			reads(t, "call 0 "+name+" 0 "+w, call(api.Call{Op: op, Name: s}))
		}
		reads(t, "call 0 rename 0 "+w+" 0 "+w, call(api.Call{Op: api.Rename, Name: s, Name2: s}))
		reads(t, "call 0 readdir 0 "+w+" 0", call(api.Call{Op: api.Readdir, Name: s}))
	}
}

// TestP21_1TooManySteps: 2000 may be; the next line with words is too many whatever its words are, but it has to be words.
func TestP21_1TooManySteps(t *testing.T) {
	full := head + strings.Repeat("boot\n", 2000)
	p, _, code := play.Parse(full)
	is(t, "the error", code, api.OK)
	is(t, "how many steps", len(p.Ops), 2000)
	parsesAs(t, full+"\n# so\n \t", 0, api.OK)
	for _, line := range []string{"boot", "tack", "tick", "tick x", "call 0 pit", "junk 0 x", head, `""`} {
		parsesAs(t, full+line, 2002, api.ErrMany)
		parsesAs(t, full+"#\n\n"+line+"\n=", 2004, api.ErrMany)
		parsesAs(t, full[:len(full)-5]+"=\n"+line, 2001, api.ErrText)
	}
	parsesAs(t, full+"=", 2002, api.ErrText)
	parsesAs(t, full+"boot \"", 2002, api.ErrText)
	parsesAs(t, full[:len(full)-5]+"bo\nboot\nboot", 2001, api.ErrWord)
}

// TestP21_1TooLong: more than 2^20 bytes, whatever they are.
func TestP21_1TooLong(t *testing.T) {
	for _, fill := range []string{" ", "\n", "#", "\t"} {
		text := head + strings.Repeat(fill, 1<<20-len(head))
		parsesAs(t, text, 0, api.OK)
		parsesAs(t, text+fill, 0, api.ErrMany)
		parsesAs(t, text[1:], 1, api.ErrPlay)
		parsesAs(t, text[1:]+fill, 1, api.ErrPlay)
		parsesAs(t, text[1:]+fill+fill, 0, api.ErrMany)
	}
	parsesAs(t, strings.Repeat("\xff", 1<<20), 1, api.ErrText)
	parsesAs(t, strings.Repeat("\xff", 1<<20+1), 0, api.ErrMany)
	parsesAs(t, strings.Repeat("\n", 1<<20-1)+"=", 1<<20, api.ErrText)
	parsesAs(t, strings.Repeat("\n", 1<<20), 0, api.ErrPlay)
	parsesAs(t, strings.Repeat("\n", 1<<20+1), 0, api.ErrMany)
	parsesAs(t, strings.Repeat("\n", 1<<24), 0, api.ErrMany)
}
