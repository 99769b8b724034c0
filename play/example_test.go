package play_test

import (
	"reflect"
	"testing"

	"annex/api"
	"annex/play"
)

// TestP21_1Examples: the chapter's.
func TestP21_1Examples(t *testing.T) {
	p, line, code := play.Parse(head + "run 1")
	is(t, "the line", line, 0)
	is(t, "the error", code, api.OK)
	is(t, "whether the play is the chapter's", reflect.DeepEqual(tidy(p), playOf(api.Op{Kind: api.OpRun, K: 1})), true)

	parsesAs(t, "", 0, api.ErrPlay)
	parsesAs(t, "# so", 0, api.ErrPlay)
	parsesAs(t, "run 1", 1, api.ErrPlay)
	parsesAs(t, "world 2 4", 1, api.ErrWords)

	reads(t, "call 0 lookup /a/b", api.Op{Kind: api.OpCall, Call: api.Call{Op: api.Lookup, Path: "/a/b"}})
	reads(t, `call 0 write 3 0 "a b"`, api.Op{Kind: api.OpCall, Call: api.Call{Op: api.Write, H: 3, Data: []byte("a b")}})
	parsesAs(t, head+"call x pit 3", 2, api.ErrWord)
	parsesAs(t, head+"call x read 3", 2, api.ErrWords)
	parsesAs(t, head+"call x read 3 0 9", 2, api.ErrNumber)
	parsesAs(t, head+"call 0", 2, api.ErrWords)

	reads(t, `junk server ""`, api.Op{Kind: api.OpJunk, A: -1})
	reads(t, "junk 1 aBcd", api.Op{Kind: api.OpJunk, A: 1, Data: []byte{0xab, 0xcd}})
	parsesAs(t, head+"junk -1 00", 2, api.ErrNumber)
	parsesAs(t, head+"junk 1 abc", 2, api.ErrHex)

	reads(t, "crash 0110", api.Op{Kind: api.OpCrash, Keep: []bool{false, true, true, false}})
	reads(t, `crash ""`, api.Op{Kind: api.OpCrash})
	parsesAs(t, head+"crash 2", 2, api.ErrNumber)
	parsesAs(t, head+"tick 01", 2, api.ErrNumber)
}

// TestP21_2Examples: the chapter's.
func TestP21_2Examples(t *testing.T) {
	rename := api.Call{Op: api.Rename, H: 0, Name: "a", H2: 0, Name2: "b c"}
	p := playOf(api.Op{Kind: api.OpCall, A: 1, Call: rename}, api.Op{Kind: api.OpJunk, A: -1}, api.Op{Kind: api.OpCrash})
	printsAs(t, p, head+"call 1 rename 0 a 0 \"b c\"\njunk server \"\"\ncrash \"\"\n", api.OK)
}

// TestP21_5Examples: the chapter's.
func TestP21_5Examples(t *testing.T) {
	printsCallAs(t, api.Call{Op: api.Getattr, H: 1, Name: "x"}, "", api.ErrSpare)
}

// TestP21_6Examples: the chapter's.
func TestP21_6Examples(t *testing.T) {
	is(t, "Text", play.Text("a/b"), `a/b`)
	is(t, "Text", play.Text(""), `""`)
	is(t, "Text", play.Text("a b"), `"a b"`)
	is(t, "Text", play.Text("\x00\""), `"\x00\""`)
}

// TestP21_1TheErrorsNumbers: the chapter's.
func TestP21_1TheErrorsNumbers(t *testing.T) {
	for text, want := range map[string]int{"": 211, head + "tack": 212, head + "tick x": 213, `"`: 214, "world": 215, head + "junk 0 x": 217} {
		_, _, code := play.Parse(text)
		is(t, "the error", int(code), want)
	}
	_, code := play.Print(api.Play{Ops: make([]api.Op, 2001)})
	is(t, "the error", int(code), 216)
	_, code = play.Print(playOf(api.Op{Kind: api.OpBoot, K: 1}))
	is(t, "the error", int(code), 218)
}
