package world_test

import (
	"strings"
	"testing"

	"annex/api"
	"annex/world"
)

// The chapter's play, and its history.
const (
	exampleWorld = "world 1 1 1 4 8 4096 48 40 2 8 64\n"
	examplePlay  = "call 0 lookup /;give 1;serve 1;give 2;call 0 create 0 a;copy 3;give 3;serve 1;give 4;drop 5;crash \"\";boot;give 6;call 0 getattr 1"
)

var exampleHistory = []string{
	"1 started 0 1 lookup /", "1 sent 0 1",
	"3 sent -1 2", "3 served 1",
	"4 returned 0 1 1 0 0 256 2 0 1 0 \"\"",
	"5 started 0 2 create 0 a", "5 sent 0 3",
	"6 sent -2 4",
	"8 sent -1 5", "8 served 1",
	"9 sent -1 6",
	"11 down 0 0 0",
	"12 up 2",
	"13 returned 0 2 5 0 1 257 1 0 4 0 \"\"",
	"14 started 0 3 getattr 1", "14 sent 0 7",
}

// TestP22_7Example: the chapter's play, and what comes of it round by round: the request is refused, the path looked up again, the request sent anew.
func TestP22_7Example(t *testing.T) {
	lines := strings.ReplaceAll(examplePlay, ";", "\n") + "\n"
	want := strings.Join(exampleHistory, "\n") + "\n"
	history, line, code := world.Run(exampleWorld + lines)
	is(t, "the history", history, want)
	is(t, "the line", line, 0)
	is(t, "the error", code, api.OK)

	rounds := "15 sent -1 8\n15 served 1\n15 sent 0 9\n" +
		"16 sent -1 10\n16 served 1\n16 sent 0 11\n" +
		"17 sent -1 12\n17 served 1\n17 returned 0 3 2 0 0 257 1 0 4 0 \"\"\n" +
		"18 served 1\n"
	history, _, _ = world.Run(exampleWorld + lines + "run 1\nrun 1\nrun 1\nrun 1\n")
	is(t, "the rounds", strings.TrimPrefix(history, want), rounds)
}

// TestP22_4LooksAtExample: behind each step of the chapter's play, what a look tells.
func TestP22_4LooksAtExample(t *testing.T) {
	g := groundOf(t, example, usual)
	for i, o := range opsOf(t, examplePlay) {
		g.step(o)
		g.holds()
		lines := strings.Split(shown(g.step(api.Op{Kind: api.OpLook})), "\n")
		var some []string
		for _, l := range lines {
			if !strings.HasPrefix(l, "kept") && !strings.HasPrefix(l, "flight") {
				some = append(some, l)
			}
		}
		is(t, "the look behind "+exampleLines()[i], strings.Join(some, ";"), exampleLooks[i])
	}
}

func exampleLines() []string { return strings.Split(examplePlay, ";") }

var exampleLooks = []string{
	"server 1 1 0;mark -1 0 1;mark 0 0 0",
	"server 1 1 1;mark -1 0 1;mark 0 0 1",
	"server 1 1 0;mark -1 0 1;mark 0 0 0",
	"server 1 1 0;mark -1 0 1;mark 0 0 0;handle 0 0 256 1 /",
	"server 1 1 0;mark -1 0 1;mark 0 0 0;handle 0 0 256 1 /",
	"server 1 1 0;mark -1 0 1;mark 0 0 0;handle 0 0 256 1 /",
	"server 1 1 1;mark -1 0 1;mark 0 0 1;handle 0 0 256 1 /",
	"server 1 1 0;mark -1 0 2;mark 0 1 0;handle 0 0 256 1 /",
	"server 1 1 0;mark -1 0 2;mark 0 1 0;handle 0 0 256 1 /",
	"server 1 1 0;mark -1 0 2;mark 0 1 0;handle 0 0 256 1 /",
	"server 0 0 0;handle 0 0 256 1 /",
	"server 1 2 0;mark -1 0 2;mark 0 1 0;handle 0 0 256 1 /",
	"server 1 2 0;mark -1 0 2;mark 0 1 0;handle 0 0 256 1 /;handle 0 1 257 1 /a",
	"server 1 2 0;mark -1 0 2;mark 0 1 0;handle 0 0 256 1 /;handle 0 1 257 1 /a",
}
