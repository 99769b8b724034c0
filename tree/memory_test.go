package tree_test

import (
	"bytes"
	"fmt"
	"slices"
	"testing"
	"unsafe"

	"annex/api"
	"annex/tree"
)

// changeable is a text over bytes that a test can change: what holds on to the text shows the change.
func changeable(s string) ([]byte, string) {
	b := []byte(s)
	return b, unsafe.String(unsafe.SliceData(b), len(b))
}

// asked asks the first device alone.
func (g *ground) asked(r api.Request) api.Reply {
	g.t.Helper()
	r.Seq = 1
	p, code := tree.Do(g.x, g.l, r)
	is(g.t, "Do", code, api.OK)
	return p
}

// TestP12_7DataIsNotKept: the bytes of a WRITE are neither changed nor kept, their spare room neither.
func TestP12_7DataIsNotKept(t *testing.T) {
	for _, n := range []int{1, 100, 511, 512, 513, 1024} {
		for _, off := range []int{0, 1, 512, 5000} {
			g := small(t)
			room := noise(int64(n), n+600)
			was := bytes.Clone(room)
			g.asked(api.Request{Op: api.Write, Id: 257, Off: off, Data: room[:n]})
			is(t, "what was handed in", bytes.Equal(room, was), true)
			clear(room)
			is(t, "READ", bytes.Equal(g.asked(read(257, off, n)).Data, was[:n]), true)
			is(t, "Commit", g.x.Commit(), api.OK)
			g.side.x = g.j.Begin()
			is(t, "READ behind Commit", bytes.Equal(g.asked(read(257, off, n)).Data, was[:n]), true)
		}
	}
}

// TestP12_7TextsAreNotKept: a text that was handed in shows nowhere what its owner does with it.
func TestP12_7TextsAreNotKept(t *testing.T) {
	g := small(t)
	b, name := changeable("newname")
	c, other := changeable("another")
	d, path := changeable("/d/another")
	g.asked(op(api.Create, 256, name))
	listed := g.asked(list(256, "f", 16)).List
	g.asked(move(256, name, 258, other))
	is(t, "LOOKUP", g.asked(look(path)).Attr.Id, 261)
	moved := g.asked(list(258, "", 16)).List
	is(t, "what was handed in", string(b)+string(c)+string(d), "newnameanother/d/another")
	for _, b := range [][]byte{b, c, d} {
		clear(b)
	}
	is(t, "the entry", listed[0], api.Entry{Name: "newname", Id: 261, Kind: 1})
	is(t, "the entry", moved[0], api.Entry{Name: "another", Id: 261, Kind: 1})
	is(t, "LOOKUP", g.asked(look("/d/another")).Attr.Id, 261)
	e, behind := changeable("g")
	g.asked(list(258, behind, 3))
	g.asked(op(api.Remove, 258, behind))
	is(t, "what was handed in", string(e), "g")
}

// TestP12_7NewMemory: what a caller does with an answer's lists is seen in no other one, and not in the tree; their spare room neither.
func TestP12_7NewMemory(t *testing.T) {
	g := groundOf(t, 30, 5000)
	for i := range 20 {
		g.made(256, fmt.Sprint("n", i))
	}
	g.ok(write(257, 0, string(noise(5, 1024))))
	for _, n := range []int{1, 3, 5, 16} {
		one, two := g.asked(list(256, "", n)), g.asked(list(256, "", n))
		want := slices.Clone(one.List)
		spoil := one.List[:cap(one.List)]
		for i := range spoil {
			spoil[i] = api.Entry{Name: "spoilt", Id: -1, Kind: 9}
		}
		_ = append(one.List, api.Entry{Name: "spoilt"})
		is(t, "another list", slices.Equal(two.List, want), true)
		is(t, "its spare room", slices.ContainsFunc(two.List[:cap(two.List)], func(e api.Entry) bool { return e.Name == "spoilt" }), false)
		is(t, "a later list", slices.Equal(g.asked(list(256, "", n)).List, want), true)
	}
	for _, n := range []int{1, 500, 512, 700, 1024} {
		one, two := g.asked(read(257, 100, n)), g.asked(read(257, 100, n))
		want := bytes.Clone(one.Data)
		spoil := one.Data[:cap(one.Data)]
		for i := range spoil {
			spoil[i] ^= 0xff
		}
		_ = append(one.Data, "spoilt"...)
		is(t, "another row", bytes.Equal(two.Data, want), true)
		is(t, "a later row", bytes.Equal(g.asked(read(257, 100, n)).Data, want), true)
	}
	g.same("all this")
}

// TestP12_7SideBySide: trees on several devices do not hear of each other.
func TestP12_7SideBySide(t *testing.T) {
	for i := range 4 {
		t.Run("", func(t *testing.T) {
			t.Parallel()
			s := newStory(t, int64(1000+i))
			for range 200 {
				s.step()
			}
			s.sound()
			s.whole()
		})
	}
}
