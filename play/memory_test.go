package play_test

import (
	"reflect"
	"strings"
	"sync"
	"testing"

	"annex/api"
	"annex/play"
)

// spoilBytes writes over a list, its spare room too, and appends to it.
func spoilBytes(list []byte) {
	room := list[:cap(list)]
	for i := range room {
		room[i] ^= 0xff
	}
	_ = append(list, 1, 2, 3)
	_ = append(list[:0], 4)
}

func spoilFlags(list []bool) {
	room := list[:cap(list)]
	for i := range room {
		room[i] = !room[i]
	}
	_ = append(list, true, true)
}

func spoilSteps(list []api.Op) {
	room := list[:cap(list)]
	for i := range room {
		room[i] = api.Op{Kind: 99}
	}
	_ = append(list, api.Op{Kind: 98})
}

// copyOf is a step that shares nothing with another.
func copyOf(o api.Op) api.Op {
	o.Data = append([]byte(nil), o.Data...)
	o.Keep = append([]bool(nil), o.Keep...)
	o.Call.Data = append([]byte(nil), o.Call.Data...)
	return o
}

func copies(list []api.Op) []api.Op {
	var out []api.Op
	for _, o := range list {
		out = append(out, copyOf(o))
	}
	return out
}

// listsText has lists of several lengths of each sort, some of them alike.
func listsText() string {
	b := strings.Builder{}
	b.WriteString(head)
	for n := range 20 {
		b.WriteString("junk 0 " + play.Text(strings.Repeat("0a", n)) + "\n")
		b.WriteString("call 0 write 0 0 " + play.Text(strings.Repeat("ab", n)) + "\n")
		b.WriteString("crash " + play.Text(strings.Repeat("01", n)) + "\n")
		b.WriteString("crash " + play.Text(strings.Repeat("01", n)) + "\n")
	}
	return b.String()
}

// TestP21_7ParsesMemory: each list is new, its spare room too: what is written into one is seen in no other, of this answer or of one behind it.
func TestP21_7ParsesMemory(t *testing.T) {
	text := listsText()
	p, _, _ := play.Parse(text)
	other, _, _ := play.Parse(text)
	want := copies(tidy(p).Ops)
	for i := range p.Ops {
		o := p.Ops[i]
		spoilBytes(o.Data)
		spoilFlags(o.Keep)
		spoilBytes(o.Call.Data)
		if !reflect.DeepEqual(tidy(api.Play{Ops: p.Ops[i+1:]}).Ops, tidy(api.Play{Ops: want[i+1:]}).Ops) {
			t.Fatalf("the steps behind the step %d have changed", i)
		}
		is(t, "whether the other answer is as it was", reflect.DeepEqual(tidyStep(other.Ops[i]), tidyStep(want[i])), true)
	}
	spoilSteps(p.Ops)
	again, _, _ := play.Parse(text)
	is(t, "whether the other answer is as it was", reflect.DeepEqual(tidy(other), tidy(playOf(want...))), true)
	is(t, "whether a later answer is as the first one was", reflect.DeepEqual(tidy(again), tidy(playOf(want...))), true)
}

// TestP21_7ParseCallsMemory: likewise.
func TestP21_7ParseCallsMemory(t *testing.T) {
	for n := range 40 {
		s := strings.Repeat("=", n)
		c, _ := play.ParseCall("write 0 0 " + play.Text(s))
		other, _ := play.ParseCall("write 0 0 " + play.Text(s))
		spoilBytes(c.Data)
		again, _ := play.ParseCall("write 0 0 " + play.Text(s))
		is(t, "the other answer", string(other.Data), s)
		is(t, "a later answer", string(again.Data), s)
	}
}

// TestP21_2HandedIn: what is handed to Print is not changed, its spare room neither, and the text does not hang on it later.
func TestP21_2HandedIn(t *testing.T) {
	p, _, _ := play.Parse(listsText())
	for i := range p.Ops {
		o := &p.Ops[i]
		o.Data = append(make([]byte, 0, 64), o.Data...)
		o.Keep = append(make([]bool, 0, 64), o.Keep...)
		o.Call.Data = append(make([]byte, 0, 64), o.Call.Data...)
	}
	room := append(copies(p.Ops), api.Op{Kind: 77}, api.Op{Kind: 78})
	p.Ops = append(append(make([]api.Op, 0, len(room)), p.Ops...), room[len(p.Ops):]...)[:len(p.Ops)]
	text, code := play.Print(p)
	is(t, "the error", code, api.OK)
	is(t, "the text", text, listsText())
	for i := range p.Ops {
		o := p.Ops[i]
		is(t, "whether the step is as it was", reflect.DeepEqual(copyOf(o), copyOf(room[i])), true)
		for _, b := range o.Data[len(o.Data):cap(o.Data)] {
			is(t, "the spare room", b, 0)
		}
		for _, k := range o.Keep[len(o.Keep):cap(o.Keep)] {
			is(t, "the spare room", k, false)
		}
		for _, b := range o.Call.Data[len(o.Call.Data):cap(o.Call.Data)] {
			is(t, "the spare room", b, 0)
		}
	}
	is(t, "the spare room's steps", p.Ops[:len(room)][len(room)-1].Kind, 78)
	for _, o := range p.Ops {
		spoilBytes(o.Data)
		spoilFlags(o.Keep)
		spoilBytes(o.Call.Data)
	}
	spoilSteps(p.Ops)
	is(t, "the text", text, listsText())
}

// TestP21_5HandedIn: likewise, of PrintCall; also where the call may not be.
func TestP21_5HandedIn(t *testing.T) {
	for op := range 12 {
		for n := range 10 {
			room := []byte("abcdefghijkl")
			c := api.Call{Op: op, Data: room[:n], H: -n % 2}
			text, code := play.PrintCall(c)
			want, wantCode := tellPrintCall(c)
			is(t, "the error", code, wantCode)
			is(t, "what was handed in", string(room), "abcdefghijkl")
			if code == api.OK {
				spoilBytes(c.Data)
				is(t, "the text", text, want)
			}
		}
	}
}

// TestP21_7SideBySide: many at once answer what one does.
func TestP21_7SideBySide(t *testing.T) {
	text := listsText()
	want, _, _ := play.Parse(text)
	var group sync.WaitGroup
	for range 8 {
		group.Go(func() {
			for range 20 {
				p, line, code := play.Parse(text)
				back, printed := play.Print(p)
				if line != 0 || code != api.OK || printed != api.OK || back != text || !reflect.DeepEqual(p, want) {
					t.Errorf("Parse or Print answers something else among many: line %d, %d, %d", line, code, printed)
				}
				spoilSteps(p.Ops)
			}
		})
	}
	group.Wait()
}
