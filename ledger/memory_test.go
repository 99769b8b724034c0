package ledger_test

import (
	"bytes"
	"fmt"
	"reflect"
	"testing"

	"annex/api"
	"annex/ledger"
)

// TestP13_6ReplyIsNotKept: what is handed in is neither changed nor kept, its spare room neither.
func TestP13_6ReplyIsNotKept(t *testing.T) {
	for _, n := range lengths {
		g := groundOf(t, 1, 2)
		room := noise(int64(n), n+600)
		was := bytes.Clone(room)
		is(t, "Put", ledger.Put(g.x, g.l, 0, 1, room[:n]), api.OK)
		is(t, "what was handed in", bytes.Equal(room, was), true)
		is(t, "Put again", ledger.Put(g.x, g.l, 0, 1, room[:n]), api.ErrKept)
		is(t, "what was handed in", bytes.Equal(room, was), true)
		clear(room)
		b, _, _ := g.asked(0, 1)
		is(t, "Find", bytes.Equal(b, was[:n]), true)
		is(t, "Commit", g.x.Commit(), api.OK)
		g.x = g.j.Begin()
		b, _, _ = g.asked(0, 1)
		is(t, "Find behind Commit", bytes.Equal(b, was[:n]), true)
	}
}

// spoil writes into a row of bytes, into its spare room, and behind it.
func spoil(b []byte) {
	room := b[:cap(b)]
	for i := range room {
		room[i] ^= 0xa5
	}
	_ = append(b, "spoilt"...)
}

// TestP13_6FoundIsNew: what a caller does with a reply is seen in no other one, and not in the ledger.
func TestP13_6FoundIsNew(t *testing.T) {
	for _, n := range lengths {
		g := groundOf(t, 1, 2)
		g.put(0, 1, text(n))
		for range 2 {
			one, _, _ := g.asked(0, 1)
			two, _, _ := g.asked(0, 1)
			list, _ := ledger.All(g.x, g.l)
			spoil(one)
			is(t, "another one", string(two), text(n))
			is(t, "a list", string(list[0].Data), text(n))
			g.has(0, 1, text(n))
			spoil(list[0].Data)
			is(t, "another one", string(two), text(n))
			g.has(0, 1, text(n))
			g.commit()
		}
	}
}

// TestP13_6ListIsNew: the lists of one answer, and those of two.
func TestP13_6ListIsNew(t *testing.T) {
	for many := 1; many <= 9; many++ {
		g := groundOf(t, 1, 9)
		for seq := 1; seq <= many; seq++ {
			g.put(0, seq, fmt.Sprint("reply ", seq))
			g.commit()
		}
		want, _ := ledger.All(g.x, g.l)
		for i := range many {
			list, _ := ledger.All(g.x, g.l)
			spoil(list[i].Data)
			for k := range many {
				if k != i {
					is(t, "another reply of the list", string(list[k].Data), fmt.Sprint("reply ", k+1))
				}
			}
		}
		list, _ := ledger.All(g.x, g.l)
		room := list[:cap(list)]
		for i := range room {
			room[i] = api.Kept{Client: 9, Data: []byte("spoilt")}
		}
		_ = append(list, api.Kept{Client: 9})
		again, _ := g.all()
		is(t, "a later list", reflect.DeepEqual(again, want), true)
		for _, k := range again[:cap(again)] {
			is(t, "its spare room", k.Client, 0)
		}
	}
}

// TestP13_6TheBlockIsNew: what Raise writes is nobody else's: the transaction's block can be read and changed by its owner.
func TestP13_6TheBlockIsNew(t *testing.T) {
	g := groundOf(t, 2, 1)
	g.raise(0, 5)
	block, _ := g.x.Read(g.l.Ledger)
	spoil(block)
	g.stands(0, 5)
	g.raise(1, 6)
	g.stands(0, 5)
	g.stands(1, 6)
}

// TestP13_6SideBySide: ledgers on several devices do not hear of each other.
func TestP13_6SideBySide(t *testing.T) {
	for i := range 4 {
		t.Run("", func(t *testing.T) {
			t.Parallel()
			s := newStory(t, int64(1000+i))
			for range 300 {
				s.step()
			}
			s.same("the story")
		})
	}
}
