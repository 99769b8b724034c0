package world_test

import (
	"fmt"
	"strings"
	"testing"

	"annex/api"
	"annex/play"
	"annex/world"
)

// runs asks for a history, its line and its error, by the second telling too.
func runs(t *testing.T, text, history string, line int, code api.Errno) {
	t.Helper()
	h, l, e := world.Run(text)
	is(t, "the history", h, history)
	is(t, "the line", l, line)
	is(t, "the error", e, code)
	h2, l2, e2 := tellRun(text)
	is(t, "the history as it is told", h2, history)
	is(t, "the line as it is told", l2, line)
	is(t, "the error as it is told", e2, code)
}

// TestP22_7Faults: the text's own fault, with its line; a world that may not be has none.
func TestP22_7Faults(t *testing.T) {
	for _, c := range []struct {
		text string
		line int
		code api.Errno
	}{
		{"", 0, api.ErrPlay},
		{"\n# nothing\n", 0, api.ErrPlay},
		{"tick 1\n", 1, api.ErrPlay},
		{"world 1 1\n", 1, api.ErrWords},
		{"world 1 1 1 4 8 4096 48 40 2 8 x\n", 1, api.ErrNumber},
		{exampleWorld + "call 0 lookup /\ntick\n", 3, api.ErrWords},
		{exampleWorld + "call 0 lookup /\n\n\ntick \"\n", 5, api.ErrText},
		{exampleWorld + "junk 0 abc", 2, api.ErrHex},
		{exampleWorld + strings.Repeat("look\n", api.MaxOps+1), api.MaxOps + 2, api.ErrMany},
		{exampleWorld + strings.Repeat("#", api.MaxText), 0, api.ErrMany},
		{"world 0 1 1 4 8 4096 48 40 2 8 64\n", 0, api.ErrShape},
		{"world 1 1 1 65 8 4096 48 40 2 8 64\nlook\n", 0, api.ErrShape},
		{"world 1 1 1 4 8 4096 39 40 2 8 64\nlook\n", 0, api.ErrShape},
		{"world 1 1 1 4 8 4096 48 40 0 8 64\nlook\n", 0, api.ErrShape},
		{"world 1 1 1 4 8 4096 48 40 9 8 64\nlook\n", 0, api.ErrShape},
		{"world 1 1 1 4 8 4096 48 40 2 8 1048577\n", 0, api.ErrShape},
		{"world 1 1 1 65 8 4096 48 40 2 8 64\nlook\ntack\n", 3, api.ErrWord}, // the text ahead of the world
	} {
		runs(t, c.text, "", c.line, c.code)
	}
}

// TestP22_7Numbers: the step's number is that of the step, not of the line; a step that tells nothing has none.
func TestP22_7Numbers(t *testing.T) {
	runs(t, exampleWorld, "", 0, api.OK)
	runs(t, strings.TrimSuffix(exampleWorld, "\n"), "", 0, api.OK)
	runs(t, "# a play\n\n"+exampleWorld+"\ntick 1 # nothing\n\nserve 1\n  \"call\" 0 lookup \"/\"\n\tboot", "2 served 1\n3 started 0 1 lookup /\n3 sent 0 1\n4 refused 0 0 221\n", 0, api.OK)
	var want strings.Builder
	for i := range api.MaxOps {
		fmt.Fprintf(&want, "%d served 1\n", i+1)
	}
	runs(t, exampleWorld+strings.Repeat("serve 1\n", api.MaxOps), want.String(), 0, api.OK)
}

// TestP22_7AllSteps: a play with every step, and every kind of event.
func TestP22_7AllSteps(t *testing.T) {
	text := "world 2 2 2 4 6 3000 30 27 2 8 64\n" +
		"call 0 lookup /\ncopy 1\nflip 1 9 1\njunk 1 \"\"\njunk server 00ff\ndrop 3\ngive 1\ngive 2\ngive 4\nserve 4\ngive 5\n" +
		"call 0 create 0 \"a b\"\nrun 1\ncall 0 write 1 3 \"x\\x00\"\ncall 0 readdir 0 \"\" 9\ntick 9\nrun 2\nlook\nclose 0 1\nclose 0 1\n" +
		"call 1 lookup \"/a b\"\ncopy 15\ngive 15\narm 2\nserve 2\nboot\nlook\ncrash 1\narm 3\nboot\ncrash 01\nboot\nlook\nrun 12\n"
	h, l, e := world.Run(text)
	h2, _, _ := tellRun(text)
	is(t, "the history", h, h2)
	is(t, "the line", l, 0)
	is(t, "the error", e, api.OK)
	for _, word := range []string{"refused", "started", "sent", "served", "returned", "handle", "down", "up", "server", "kept", "mark", "flight"} {
		is(t, "whether there is a line of "+word, strings.Contains(h, " "+word+" "), true)
	}
	is(t, "whether the power fails in a step", strings.Contains(h, "\n25 served 0\n25 down 3 1 0\n26 refused 0 0 3\n27 server 0 0 0\n"), true)
	is(t, "the listing", strings.Contains(h, ` returned 0 4 10 0 0 0 0 0 0 0 "" "a b" 257 1`+"\n"), true)
}

// TestP22_7AsByStep: Run is a world led step by step.
func TestP22_7AsByStep(t *testing.T) {
	for seed := range int64(20) {
		g := groundOf(t, shapes()[seed%4], usual)
		c := chanceOf(g, seed, profiles[int(seed)%len(profiles)])
		want := ""
		for n := range 150 {
			for _, e := range g.step(c.op()) {
				want += fmt.Sprintf("%d %s\n", n+1, world.Show(e))
			}
		}
		text, code := play.Print(api.Play{Shape: g.told.shape, Params: usual, Ops: g.done})
		if code != api.OK {
			t.Fatalf("Print: %d", code)
		}
		runs(t, text, want, 0, api.OK)
	}
}
