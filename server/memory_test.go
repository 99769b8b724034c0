package server_test

import (
	"bytes"
	"fmt"
	"slices"
	"testing"

	"annex/api"
	"annex/msg"
)

// spoil writes into a row of bytes, into its spare room, and behind it.
func spoil(b []byte) {
	room := b[:cap(b)]
	for i := range room {
		room[i] ^= 0xa5
	}
	_ = append(b, "spoilt"...)
}

func spoilPackets(list []api.Packet) {
	for _, p := range list {
		spoil(p.Data)
	}
	room := list[:cap(list)]
	for i := range room {
		room[i] = api.Packet{To: 9, Data: []byte("spoilt")}
	}
	_ = append(list, api.Packet{To: 9})
}

func spoilNumbers(list []int) {
	room := list[:cap(list)]
	for i := range room {
		room[i] = -7
	}
	_ = append(list, 9)
}

func spoilKept(list []api.Kept) {
	for _, k := range list {
		spoil(k.Data)
	}
	room := list[:cap(list)]
	for i := range room {
		room[i] = api.Kept{Client: 9, Data: []byte("spoilt")}
	}
	_ = append(list, api.Kept{Client: 9})
}

// TestP15_7HandedIn: a datagram is not changed, its spare room neither, whatever becomes of it.
func TestP15_7HandedIn(t *testing.T) {
	c := newChance(t, wide, 3)
	s, _ := up(t, wide)
	for range 400 {
		b := c.datagram()
		room := append(bytes.Clone(b), "the room behind it"...)
		was := bytes.Clone(room)
		c.hear(s.Receive(room[:len(b)]))
		is(t, "what was handed in", bytes.Equal(room, was), true)
		c.hear(step(t, s))
		is(t, "what was handed in, behind a Step", bytes.Equal(room, was), true)
	}
}

// TestP15_7NotKept: what becomes of the bytes of a request while it waits is not seen.
func TestP15_7NotKept(t *testing.T) {
	s, _ := up(t, wide)
	does(t, s, create(from(0, 1, 0, 1), 256, "a"))
	data := bytes.Repeat([]byte("data"), 200)
	for _, b := range [][]byte{datagram(t, write(from(0, 2, 1, 1), 257, 0, data)), datagram(t, create(from(1, 1, 0, 1), 256, "name")), datagram(t, lookup(from(2, 1, 0, 0), "/a"))} {
		none(t, "Receive", s.Receive(b))
		spoil(b)
	}
	is(t, "CREATE", one(t, "CREATE", step(t, s), 1).Status, api.OK)
	is(t, "LOOKUP", one(t, "LOOKUP", step(t, s), 2).Attr.Id, 257)
	is(t, "WRITE", one(t, "WRITE", step(t, s), 0).Attr.Size, 800)
	is(t, "the name", does(t, s, lookup(from(1, 2, 1, 1), "/name")).Attr.Id, 258)
	r := from(0, 3, 2, 1)
	r.Op, r.Id, r.Len = api.Read, 257, 1024
	is(t, "the data", bytes.Equal(does(t, s, r).Data, data), true)
}

// TestP15_7HandedOut: of two servers that are led the same way, from one all that is handed out is spoilt; the other one's answers stay the same.
func TestP15_7HandedOut(t *testing.T) {
	for i, shape := range shapes() {
		c := newChance(t, shape, int64(i))
		clean, d := up(t, shape)
		rude, e := up(t, shape)
		for range 200 {
			b := c.datagram()
			out, other := clean.Receive(b), rude.Receive(b)
			is(t, "Receive", samePackets(out, other), true)
			spoilPackets(other)
			c.hear(out)
			out, other = step(t, clean), step(t, rude)
			is(t, "Step", samePackets(out, other), true)
			spoilPackets(other)
			c.hear(out)
			marks, waits, kept := rude.Marks(), rude.Waits(), rude.Kept()
			is(t, "Marks", slices.Equal(marks, clean.Marks()), true)
			is(t, "Waits", slices.Equal(waits, clean.Waits()), true)
			is(t, "Kept", sameKept(kept, clean.Kept()), true)
			spoilNumbers(marks)
			spoilNumbers(waits)
			spoilKept(kept)
		}
		is(t, "what lasts", bytes.Equal(d.Durable(), e.Durable()), true)
	}
}

// TestP15_7Apart: what is written into one list is seen in no other one.
func TestP15_7Apart(t *testing.T) {
	s, _ := up(t, wide)
	for seq := 1; seq <= 3; seq++ {
		does(t, s, lookup(from(0, seq, 0, 0), "/"))
	}
	b := datagram(t, lookup(from(0, 2, 0, 0), "/"))
	for i := range 3 {
		kept, clean := s.Kept(), s.Kept()
		spoil(kept[i].Data)
		for k := range 3 {
			is(t, fmt.Sprint("kept ", k, " when ", i, " is spoilt"), bytes.Equal(kept[k].Data, clean[k].Data), k != i)
		}
		first, second := s.Receive(b), s.Receive(b)
		spoilPackets(first)
		is(t, "another packet", bytes.Equal(second[0].Data, clean[1].Data), true)
	}
	_, code := msg.DecodeReply(s.Kept()[1].Data)
	is(t, "DecodeReply", code, api.OK)
}

// TestP15_7Image: an image is the caller's, and a device made of it its own.
func TestP15_7Image(t *testing.T) {
	first, second := imageOf(t, example), imageOf(t, example)
	spoil(first)
	is(t, "another image", bytes.Equal(second, imageOf(t, example)), true)
	d := deviceOf(t, second)
	s := openOn(t, d)
	spoil(second)
	spoil(d.Durable())
	is(t, "the server", does(t, s, lookup(from(0, 1, 0, 0), "/")).Attr.Id, 256)
}

// TestP15_7SideBySide: servers over several devices do not hear of each other, also at the same time.
func TestP15_7SideBySide(t *testing.T) {
	play := func(t *testing.T) [][]byte {
		c := newChance(t, wide, 11)
		s, d := up(t, wide)
		for range 200 {
			c.hear(s.Receive(c.datagram()))
			c.hear(step(t, s))
		}
		return append(c.heard, d.Durable())
	}
	want := play(t)
	for range 6 {
		t.Run("", func(t *testing.T) {
			t.Parallel()
			is(t, "the play", slices.EqualFunc(play(t), want, bytes.Equal), true)
		})
	}
}
