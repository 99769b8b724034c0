package play_test

import (
	"fmt"
	"math"
	"reflect"
	"regexp"
	"slices"
	"strconv"
	"strings"
	"testing"

	"annex/api"
	"annex/play"
)

// A second telling of the chapter: lines by regular expressions, steps one by one, and spare fields by holding a step against one that has only its own.

const aWord = `(?:[a-zA-Z0-9_./-]+|"(?:[ !#-\[\]-~]|\\["\\]|\\x[0-9a-fA-F]{2})*")`

var (
	word     = regexp.MustCompile(aWord)
	noWords  = regexp.MustCompile(`^[ \t]*(?:#(?s:.*))?$`)
	someOnes = regexp.MustCompile(`^[ \t]*(` + aWord + `(?:[ \t]+` + aWord + `)*)(?:[ \t]*|[ \t]+#(?s:.*))$`)
	escaped  = regexp.MustCompile(`\\(?:x..|["\\])`)
	number   = regexp.MustCompile(`^(?:0|[1-9][0-9]{0,9})$`)
	pairs    = regexp.MustCompile(`^(?:[0-9a-fA-F]{2})*$`)
	flags    = regexp.MustCompile(`^[01]*$`)
	bare     = regexp.MustCompile(`^[a-zA-Z0-9_./-]+$`)
)

// tellWords takes a line apart.
func tellWords(line string) ([]string, bool) {
	if noWords.MatchString(line) {
		return nil, true
	}
	m := someOnes.FindStringSubmatch(line)
	if m == nil {
		return nil, false
	}
	list := word.FindAllString(m[1], -1)
	for i, w := range list {
		if w[0] == '"' {
			list[i] = escaped.ReplaceAllStringFunc(w[1:len(w)-1], unescaped)
		}
	}
	return list, true
}

func unescaped(s string) string {
	if s[1] != 'x' {
		return s[1:]
	}
	n, _ := strconv.ParseUint(s[2:], 16, 8)
	return string([]byte{byte(n)})
}

// tellNumbers fills the places from the words; ErrWords, if they are not as many.
func tellNumbers(words []string, places ...*int) api.Errno {
	if len(words) != len(places) {
		return api.ErrWords
	}
	for i, w := range words {
		n, _ := strconv.ParseInt(w, 10, 64)
		if !number.MatchString(w) || n > 1073741824 {
			return api.ErrNumber
		}
		*places[i] = int(n)
	}
	return api.OK
}

func tellParse(text string) (api.Play, int, api.Errno) {
	var p api.Play
	if len(text) > 1048576 {
		return p, 0, api.ErrMany
	}
	begun := false
	for i, line := range strings.Split(text, "\n") {
		words, ok := tellWords(line)
		code := api.OK
		switch {
		case !ok:
			code = api.ErrText
		case len(words) == 0:
			continue
		case !begun && words[0] != "world":
			code = api.ErrPlay
		case !begun:
			s, t := &p.Shape, &p.Params
			begun = true
			code = tellNumbers(words[1:], &s.Clients, &s.Window, &s.Places, &s.Cache, &s.Inodes, &s.Quota, &s.Data, &s.Journal, &t.Min, &t.First, &t.Max)
		case len(p.Ops) >= 2000:
			code = api.ErrMany
		default:
			var o api.Op
			o, code = tellStep(words[0], words[1:])
			p.Ops = append(p.Ops, o)
		}
		if code != api.OK {
			return api.Play{}, i + 1, code
		}
	}
	if !begun {
		return api.Play{}, 0, api.ErrPlay
	}
	return p, 0, api.OK
}

func tellStep(name string, words []string) (api.Op, api.Errno) {
	o := api.Op{Kind: slices.Index([]string{"call", "close", "tick", "serve", "give", "drop", "copy", "flip", "junk", "arm", "crash", "boot", "run", "look"}, name) + 1}
	code := api.OK
	switch o.Kind {
	case 0:
		code = api.ErrWord
	case 1:
		if len(words) < 2 {
			return o, api.ErrWords
		}
		o.Call, code = tellCall(words[1], words[2:])
		if code == api.OK {
			code = tellNumbers(words[:1], &o.A)
		}
	case 2:
		code = tellNumbers(words, &o.A, &o.K)
	case 8:
		code = tellNumbers(words, &o.K, &o.M, &o.X)
	case 9:
		code = tellJunk(&o, words)
	case 11:
		code = tellCrash(&o, words)
	case 12, 14:
		code = tellNumbers(words)
	default:
		code = tellNumbers(words, &o.K)
	}
	return o, code
}

func tellJunk(o *api.Op, words []string) api.Errno {
	if len(words) != 2 {
		return api.ErrWords
	}
	if words[0] == "server" {
		o.A = -1
	} else if code := tellNumbers(words[:1], &o.A); code != api.OK {
		return code
	}
	if !pairs.MatchString(words[1]) {
		return api.ErrHex
	}
	fmt.Sscanf(words[1], "%x", &o.Data)
	return api.OK
}

func tellCrash(o *api.Op, words []string) api.Errno {
	if len(words) != 1 {
		return api.ErrWords
	}
	if !flags.MatchString(words[0]) {
		return api.ErrNumber
	}
	for _, r := range words[0] {
		o.Keep = append(o.Keep, r == '1')
	}
	return api.OK
}

// split takes the words at the places out of a list: these, and the rest.
func split(words []string, at ...int) (out, rest []string) {
	for i, w := range words {
		if slices.Contains(at, i) {
			out = append(out, w)
		} else {
			rest = append(rest, w)
		}
	}
	return out, rest
}

func tellCall(name string, words []string) (api.Call, api.Errno) {
	c := api.Call{Op: slices.Index([]string{"lookup", "getattr", "read", "write", "create", "remove", "mkdir", "rmdir", "rename", "readdir"}, name) + 1}
	if c.Op == 0 {
		return c, api.ErrWord
	}
	if len(words) != []int{1, 1, 3, 3, 2, 2, 2, 2, 4, 3}[c.Op-1] {
		return c, api.ErrWords
	}
	code := api.OK
	switch c.Op {
	case 1:
		c.Path = words[0]
	case 2:
		code = tellNumbers(words, &c.H)
	case 3:
		code = tellNumbers(words, &c.H, &c.Off, &c.Len)
	case 4:
		c.Data = []byte(words[2])
		code = tellNumbers(words[:2], &c.H, &c.Off)
	case 9:
		texts, rest := split(words, 1, 3)
		c.Name, c.Name2 = texts[0], texts[1]
		code = tellNumbers(rest, &c.H, &c.H2)
	case 10:
		texts, rest := split(words, 1)
		c.Name = texts[0]
		code = tellNumbers(rest, &c.H, &c.Len)
	default:
		c.Name = words[1]
		code = tellNumbers(words[:1], &c.H)
	}
	return c, code
}

func tellParseCall(text string) (api.Call, api.Errno) {
	if len(text) > 1048576 {
		return api.Call{}, api.ErrMany
	}
	words, ok := tellWords(text)
	if !ok || strings.Contains(text, "\n") {
		return api.Call{}, api.ErrText
	}
	if len(words) == 0 {
		return api.Call{}, api.ErrWords
	}
	c, code := tellCall(words[0], words[1:])
	if code != api.OK {
		return api.Call{}, code
	}
	return c, code
}

func tellText(s string) string {
	if bare.MatchString(s) {
		return s
	}
	b := strings.Builder{}
	for _, c := range []byte(s) {
		switch {
		case c == '"':
			b.WriteString(`\"`)
		case c == '\\':
			b.WriteString(`\\`)
		case c < 32 || c > 126:
			fmt.Fprintf(&b, `\x%02x`, c)
		default:
			b.WriteByte(c)
		}
	}
	return `"` + b.String() + `"`
}

func outOfBounds(list ...int) bool {
	return slices.Min(list) < 0 || slices.Max(list) > 1073741824
}

// tellPrintCall also tells the text of a call that is too long.
func tellPrintCall(c api.Call) (string, api.Errno) {
	own := api.Call{Op: c.Op, H: c.H}
	text := ""
	switch c.Op {
	case 1:
		own = api.Call{Op: 1, Path: c.Path}
		text = "lookup " + tellText(c.Path)
	case 2:
		text = fmt.Sprint("getattr ", c.H)
	case 3:
		own.Off, own.Len = c.Off, c.Len
		text = fmt.Sprint("read ", c.H, " ", c.Off, " ", c.Len)
	case 4:
		own.Off, own.Data = c.Off, c.Data
		text = fmt.Sprint("write ", c.H, " ", c.Off) + " " + tellText(string(c.Data))
	case 5, 6, 7, 8:
		own.Name = c.Name
		text = fmt.Sprint([]string{"create", "remove", "mkdir", "rmdir"}[c.Op-5], " ", c.H) + " " + tellText(c.Name)
	case 9:
		own.Name, own.H2, own.Name2 = c.Name, c.H2, c.Name2
		text = fmt.Sprintf("rename %d %s %d %s", c.H, tellText(c.Name), c.H2, tellText(c.Name2))
	case 10:
		own.Name, own.Len = c.Name, c.Len
		text = fmt.Sprintf("readdir %d %s %d", c.H, tellText(c.Name), c.Len)
	default:
		return "", api.ErrWord
	}
	if !reflect.DeepEqual(tidyCall(c), tidyCall(own)) {
		return "", api.ErrSpare
	}
	if outOfBounds(c.H, c.H2, c.Off, c.Len) {
		return "", api.ErrNumber
	}
	if len(text) > 1048576 {
		return text, api.ErrMany
	}
	return text, api.OK
}

func tellPrint(p api.Play) (string, api.Errno) {
	s, t := p.Shape, p.Params
	if outOfBounds(s.Clients, s.Window, s.Places, s.Cache, s.Inodes, s.Quota, s.Data, s.Journal, t.Min, t.First, t.Max) {
		return "", api.ErrNumber
	}
	if len(p.Ops) > 2000 {
		return "", api.ErrMany
	}
	b := strings.Builder{}
	fmt.Fprintln(&b, "world", s.Clients, s.Window, s.Places, s.Cache, s.Inodes, s.Quota, s.Data, s.Journal, t.Min, t.First, t.Max)
	for _, o := range p.Ops {
		line, code := tellPrintStep(o)
		if code != api.OK {
			return "", code
		}
		b.WriteString(line + "\n")
	}
	if b.Len() > 1048576 {
		return "", api.ErrMany
	}
	return b.String(), api.OK
}

func tellPrintStep(o api.Op) (string, api.Errno) {
	own := api.Op{Kind: o.Kind, K: o.K}
	line := ""
	callText, callCode := "", api.OK
	least := 0
	switch o.Kind {
	case 1:
		own = api.Op{Kind: 1, A: o.A, Call: o.Call}
		callText, callCode = tellPrintCall(o.Call)
		line = fmt.Sprint("call ", o.A, " ") + callText
	case 2:
		own.A = o.A
		line = fmt.Sprint("close ", o.A, " ", o.K)
	case 8:
		own.M, own.X = o.M, o.X
		line = fmt.Sprint("flip ", o.K, " ", o.M, " ", o.X)
	case 9:
		own = api.Op{Kind: 9, A: o.A, Data: o.Data}
		least = -1
		line = "junk " + strings.Replace(fmt.Sprint(o.A), "-1", "server", 1) + " " + orNone(fmt.Sprintf("%x", o.Data))
	case 11:
		own = api.Op{Kind: 11, Keep: o.Keep}
		line = "crash " + orNone(tellKeep(o.Keep))
	case 12:
		own.K, line = 0, "boot"
	case 14:
		own.K, line = 0, "look"
	case 3, 4, 5, 6, 7, 10, 13:
		line = fmt.Sprint(map[int]string{3: "tick", 4: "serve", 5: "give", 6: "drop", 7: "copy", 10: "arm", 13: "run"}[o.Kind], " ", o.K)
	default:
		return "", api.ErrWord
	}
	switch {
	case !reflect.DeepEqual(tidyStep(o), tidyStep(own)):
		return "", api.ErrSpare
	case callCode != api.OK && callCode != api.ErrMany:
		return "", callCode
	case o.A < least || o.A > 1073741824 || outOfBounds(o.K, o.M, o.X):
		return "", api.ErrNumber
	}
	return line, api.OK
}

func orNone(s string) string {
	if s == "" {
		return `""`
	}
	return s
}

func tellKeep(keep []bool) string {
	b := strings.Builder{}
	for _, k := range keep {
		b.WriteString(map[bool]string{false: "0", true: "1"}[k])
	}
	return b.String()
}

// tidyCall, tidyStep and tidy: nil and the empty list are the same.
func tidyCall(c api.Call) api.Call {
	if len(c.Data) == 0 {
		c.Data = nil
	}
	return c
}

func tidyStep(o api.Op) api.Op {
	o.Call = tidyCall(o.Call)
	if len(o.Data) == 0 {
		o.Data = nil
	}
	if len(o.Keep) == 0 {
		o.Keep = nil
	}
	return o
}

func tidy(p api.Play) api.Play {
	var list []api.Op
	for _, o := range p.Ops {
		list = append(list, tidyStep(o))
	}
	p.Ops = list
	return p
}

func short(s string) string {
	if len(s) > 200 {
		return fmt.Sprintf("%q .. (%d bytes)", s[:200], len(s))
	}
	return strconv.Quote(s)
}

// parses holds Parse against the second telling.
func parses(t *testing.T, text string) {
	t.Helper()
	want, wantLine, wantCode := tellParse(text)
	got, line, code := play.Parse(text)
	if line != wantLine || code != wantCode || !reflect.DeepEqual(tidy(got), tidy(want)) {
		t.Fatalf("Parse(%s): %.300v, line %d, %d, want %.300v, line %d, %d", short(text), got, line, code, want, wantLine, wantCode)
	}
}

// parsesAs asks Parse for a fault.
func parsesAs(t *testing.T, text string, line int, code api.Errno) {
	t.Helper()
	p, l, e := play.Parse(text)
	if l != line || e != code {
		t.Fatalf("Parse(%s): line %d, %d, want line %d, %d", short(text), l, e, line, code)
	}
	if code != api.OK && !reflect.DeepEqual(p, api.Play{}) {
		t.Fatalf("Parse(%s): %.300v beside an error", short(text), p)
	}
	parses(t, text)
}

// reads asks Parse for the one step of a line behind the world's.
func reads(t *testing.T, line string, want api.Op) {
	t.Helper()
	p, l, e := play.Parse(head + line)
	if l != 0 || e != api.OK || len(p.Ops) != 1 || !reflect.DeepEqual(tidyStep(p.Ops[0]), want) {
		t.Fatalf("Parse of the line %s: %.300v, line %d, %d, want %.300v", short(line), p, l, e, want)
	}
	parses(t, head+line)
}

func parsesCall(t *testing.T, text string) {
	t.Helper()
	want, wantCode := tellParseCall(text)
	got, code := play.ParseCall(text)
	if code != wantCode || !reflect.DeepEqual(tidyCall(got), tidyCall(want)) {
		t.Fatalf("ParseCall(%s): %.300v, %d, want %.300v, %d", short(text), got, code, want, wantCode)
	}
}

func parsesCallAs(t *testing.T, text string, want api.Call, code api.Errno) {
	t.Helper()
	c, e := play.ParseCall(text)
	if e != code || !reflect.DeepEqual(tidyCall(c), want) {
		t.Fatalf("ParseCall(%s): %.300v, %d, want %.300v, %d", short(text), c, e, want, code)
	}
	parsesCall(t, text)
}

func prints(t *testing.T, p api.Play) {
	t.Helper()
	want, wantCode := tellPrint(p)
	got, code := play.Print(p)
	if got != want || code != wantCode {
		t.Fatalf("Print(%.300v): %s, %d, want %s, %d", p, short(got), code, short(want), wantCode)
	}
}

func printsAs(t *testing.T, p api.Play, text string, code api.Errno) {
	t.Helper()
	got, e := play.Print(p)
	if got != text || e != code {
		t.Fatalf("Print(%.300v): %s, %d, want %s, %d", p, short(got), e, short(text), code)
	}
	prints(t, p)
}

func printsCall(t *testing.T, c api.Call) {
	t.Helper()
	want, wantCode := tellPrintCall(c)
	if wantCode != api.OK {
		want = ""
	}
	got, code := play.PrintCall(c)
	if got != want || code != wantCode {
		t.Fatalf("PrintCall(%.300v): %s, %d, want %s, %d", c, short(got), code, short(want), wantCode)
	}
}

func printsCallAs(t *testing.T, c api.Call, text string, code api.Errno) {
	t.Helper()
	got, e := play.PrintCall(c)
	if got != text || e != code {
		t.Fatalf("PrintCall(%.300v): %s, %d, want %s, %d", c, short(got), e, short(text), code)
	}
	printsCall(t, c)
}

const head = "world 2 4 4 16 32 8192 200 40 2 8 64\n"

func shape() api.Shape {
	return api.Shape{Clients: 2, Window: 4, Places: 4, Cache: 16, Inodes: 32, Quota: 8192, Data: 200, Journal: 40}
}

func params() api.Params { return api.Params{Min: 2, First: 8, Max: 64} }

// playOf has the world of head.
func playOf(list ...api.Op) api.Play {
	return api.Play{Shape: shape(), Params: params(), Ops: list}
}

// sampleLines has a line for each step and each call, all numbers of a line unlike.
func sampleLines() []string {
	return []string{
		"call 1 lookup /a/b", "call 1 getattr 2", "call 1 read 2 3 4", "call 1 write 2 3 abc", "call 1 create 2 a", "call 1 remove 2 a",
		"call 1 mkdir 2 a", "call 1 rmdir 2 a", "call 1 rename 2 a 3 b", "call 1 readdir 2 a 3",
		"close 1 2", "tick 1", "serve 1", "give 1", "drop 1", "copy 1", "flip 1 2 3", "junk 1 0a", "junk server 0a", "arm 1", "crash 01", "boot", "run 1", "look",
	}
}

// sampleSteps are the steps of sampleLines.
func sampleSteps() []api.Op {
	call := func(c api.Call) api.Op { return api.Op{Kind: api.OpCall, A: 1, Call: c} }
	return []api.Op{
		call(api.Call{Op: api.Lookup, Path: "/a/b"}),
		call(api.Call{Op: api.Getattr, H: 2}),
		call(api.Call{Op: api.Read, H: 2, Off: 3, Len: 4}),
		call(api.Call{Op: api.Write, H: 2, Off: 3, Data: []byte("abc")}),
		call(api.Call{Op: api.Create, H: 2, Name: "a"}),
		call(api.Call{Op: api.Remove, H: 2, Name: "a"}),
		call(api.Call{Op: api.Mkdir, H: 2, Name: "a"}),
		call(api.Call{Op: api.Rmdir, H: 2, Name: "a"}),
		call(api.Call{Op: api.Rename, H: 2, Name: "a", H2: 3, Name2: "b"}),
		call(api.Call{Op: api.Readdir, H: 2, Name: "a", Len: 3}),
		{Kind: api.OpClose, A: 1, K: 2},
		{Kind: api.OpTick, K: 1},
		{Kind: api.OpServe, K: 1},
		{Kind: api.OpGive, K: 1},
		{Kind: api.OpDrop, K: 1},
		{Kind: api.OpCopy, K: 1},
		{Kind: api.OpFlip, K: 1, M: 2, X: 3},
		{Kind: api.OpJunk, A: 1, Data: []byte{10}},
		{Kind: api.OpJunk, A: -1, Data: []byte{10}},
		{Kind: api.OpArm, K: 1},
		{Kind: api.OpCrash, Keep: []bool{false, true}},
		{Kind: api.OpBoot},
		{Kind: api.OpRun, K: 1},
		{Kind: api.OpLook},
	}
}

// edges are ints about the bounds of a number, and at the ends of what an int is and of narrower ones.
func edges() []int {
	return []int{math.MinInt, math.MinInt + 1, -1 << 32, math.MinInt32, -1073741824, -256, -2, -1, 0, 1, 9, 10, 255, 1073741823, 1073741824,
		1073741825, math.MaxInt32, 1 << 32, 1<<32 + 1, 1 << 62, math.MaxInt - 1, math.MaxInt}
}

// oddWords are words that might be taken for numbers, names, bits or hex digits, as they are written.
func oddWords() []string {
	return []string{"0", "00", "01", "1", "10", "010", "1073741823", "1073741824", "1073741825", "2147483648", "4294967296", "4294967297", "9999999999",
		"10000000000", "18446744073709551616", "18446744073709551617", "99999999999999999999999999999999", "-0", "-1", "-", "1-", "1.0", ".1", "1.", "0x1", "0b1", "0o1",
		"1_0", "1e3", `"+1"`, `""`, `" 1"`, `"1 "`, `"1\x00"`, `"\x31"`, `"\xd9\xa3"`, `"\xff"`, `"12"`, `"server"`, "server", "Server", "servers", "-server", "a", "ab", "AB", "aBc", "abcg", "0110", "011a", "2",
		`"\x30\x31"`, "world", "call", "lookup", "get", "/", `"a b"`, `"\""`}
}

// texts are all texts of these characters with up to so many of them.
func texts(of []string, most int) []string {
	all := []string{""}
	last := all
	for range most {
		var next []string
		for _, s := range last {
			for _, c := range of {
				next = append(next, s+c)
			}
		}
		all = append(all, next...)
		last = next
	}
	return all
}

func is[T comparable](t *testing.T, what string, got, want T) {
	t.Helper()
	if got != want {
		t.Fatalf("%s: %v, want %v", what, got, want)
	}
}
