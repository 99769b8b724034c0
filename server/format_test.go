package server_test

import (
	"bytes"
	"encoding/binary"
	"math"
	"testing"

	"annex/api"
	"annex/plan"
	"annex/server"
)

// extremes are shapes at their bounds.
func extremes() []api.Shape {
	return []api.Shape{
		{Clients: 1, Window: 1, Places: 1, Cache: 1, Inodes: 2, Quota: 1, Data: 9, Journal: 27},
		{Clients: 8, Window: 8, Places: 8, Cache: 64, Inodes: 256, Quota: api.MaxQuota, Data: 2048, Journal: 512},
		{Clients: 1, Window: 1, Places: 1, Cache: 1, Inodes: 3, Quota: 0, Data: 4060, Journal: 27}, // 4095 blocks
		{Clients: 8, Window: 1, Places: 8, Cache: 1, Inodes: 2, Quota: 0, Data: 4061, Journal: 27}, // 4096 blocks
	}
}

// TestP15_1Bytes: the image against the second telling.
func TestP15_1Bytes(t *testing.T) {
	for _, s := range append(shapes(), extremes()...) {
		got, code := server.Format(s)
		want, wants := tellFormat(s)
		is(t, "Format", code, wants)
		is(t, "Format", code, api.OK)
		is(t, "the image", bytes.Equal(got, want), true)
		is(t, "its length", len(got), 512*layoutOf(t, s).Total)
	}
}

// TestP15_1Blocks: the image of the examples' shape, block by block, as the chapters say what stands there.
func TestP15_1Blocks(t *testing.T) {
	l := layoutOf(t, example)
	super, _ := plan.Super(example)
	root := make([]byte, 512)
	copy(root, []byte{0, 0, 0, 0, 0, 0, 0, 1, 0, 0, 0, 2, 0, 0, 0, 0, 0, 0, 0, 0, 0, 0, 0, 1})
	descriptor := make([]byte, 512)
	copy(descriptor, []byte{'A', 'N', 'X', 'D', 0, 0, 0, 2, 0, 0, 0, 0, 0, 0, 0, 1, 0, 0, 0, byte(l.Ledger), 0, 0, 0, 0, 0, 0, 0, byte(l.Table)})
	commit := make([]byte, 512)
	copy(commit, []byte{'A', 'N', 'X', 'C', 0, 0, 0, 0, 0, 0, 0, 0, 0, 0, 0, 1})
	want := map[int][]byte{0: super, 1: bootBytes(0), 3: descriptor, 5: root, 6: commit, l.Table: root}
	image := imageOf(t, example)
	for b := range l.Total {
		got := image[512*b : 512*b+512]
		if b == 2 { // the journal's head: the next transaction is the second one, and begins behind the first
			is(t, "the head", string(got[:20]), "ANXH\x00\x00\x00\x00\x00\x00\x00\x00\x00\x00\x00\x02\x00\x00\x00\x04")
			continue
		}
		if want[b] == nil {
			want[b] = make([]byte, 512)
		}
		if !bytes.Equal(got, want[b]) {
			t.Errorf("block %d: %x, want %x", b, got, want[b])
		}
	}
}

// TestP15_1Root: the first transaction made the root; the second one was the boot's.
func TestP15_1Root(t *testing.T) {
	for _, shape := range shapes() {
		s, _ := up(t, shape)
		p := does(t, s, lookup(from(0, 1, 0, 0), "/"))
		is(t, "the root", p.Attr, api.Attr{Id: 256, Kind: api.Dir, Size: 0, Change: 1})
		is(t, "the stamp of the first reply", s.Kept()[0].Stamp, 3)
	}
}

// TestP15_1Refused: a shape that may not be, or does not fit.
func TestP15_1Refused(t *testing.T) {
	for i := range 8 {
		for _, n := range []int{math.MinInt, -1, 0, 1, 9, 26, 65, 257, 513, 4097, 4096, api.MaxQuota + 1, math.MaxInt} {
			s := example
			*[]*int{&s.Clients, &s.Window, &s.Places, &s.Cache, &s.Inodes, &s.Quota, &s.Data, &s.Journal}[i] = n
			_, want := plan.Plan(s)
			image, code := server.Format(s)
			is(t, "Format", code, want)
			is(t, "an image", len(image) > 0, want == api.OK)
		}
	}
	for _, c := range []struct {
		data int
		code api.Errno
	}{{19, api.ErrRoom}, {20, api.OK}, {4058, api.OK}, {4059, api.ErrRoom}, {4097, api.ErrShape}} {
		s := example
		s.Data = c.data
		image, code := server.Format(s)
		is(t, "Format", code, c.code)
		is(t, "an image", image != nil, c.code == api.OK)
	}
	image, code := server.Format(api.Shape{})
	is(t, "Format of nothing", code, api.ErrShape)
	is(t, "an image", image == nil, true)
}

// TestP15_1Epoch: a device just formatted has not been booted.
func TestP15_1Epoch(t *testing.T) {
	image := imageOf(t, example)
	is(t, "the boot block", bytes.Equal(image[512:1024], bootBytes(0)), true)
	d := deviceOf(t, image)
	for epoch := 1; epoch < 5; epoch++ {
		is(t, "Epoch", openOn(t, d).Epoch(), epoch)
	}
	is(t, "the log has it", binary.BigEndian.Uint64(d.Durable()[520:]) < 5, true)
}
