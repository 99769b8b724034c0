package fsck_test

import (
	"fmt"
	"testing"

	"annex/api"
	"annex/msg"
)

// booted is an image with the epoch 3 and the next stamp 10.
func booted(t *testing.T, s api.Shape) *disk {
	d := diskOf(t, s)
	d.epoch(3)
	d.head(10)
	return d
}

func TestP23_2Mark(t *testing.T) {
	for n, bent := range map[uint64]bool{0: false, 1: false, last: false, last + 1: true, 1 << 63: true, 1<<64 - 1: true} {
		d := diskOf(t, uneven)
		for c := range 8 {
			d.mark(c, n)
		}
		var want []string
		if bent {
			want = []string{"mark 0", "mark 1", "mark 2"} // there are three clients
		}
		checks(t, fmt.Sprint("a watermark of ", n), d.b, api.OK, want...)
	}
	d := diskOf(t, roomy)
	d.mark(1, last+1)
	d.mark(7, last+1)
	checks(t, "some", d.b, api.OK, "mark 1", "mark 7")
}

// TestP23_2Ledger: what a slot may not be; then nothing is told of the others.
func TestP23_2Ledger(t *testing.T) {
	good := reply(t, 1, 1, 1)
	for _, x := range []struct {
		what   string
		change func(b []byte)
		want   string
	}{
		{"as it is", func([]byte) {}, "stamp 0 1"},
		{"no such client", func(b []byte) { put32(b, 2) }, "ledger"},
		{"the last client of all", func(b []byte) { put32(b, 1<<32-1) }, "ledger"},
		{"no length", func(b []byte) { put32(b[4:], 0) }, "ledger"},
		{"a length of 1401", func(b []byte) { put32(b[4:], 1401) }, "ledger"},
		{"a length of 1400", func(b []byte) { put32(b[4:], 1400) }, "stamp 0 1 | kept 1 1"},
		{"seq above", func(b []byte) { put64(b[8:], last+1) }, "ledger"},
		{"seq below 0", func(b []byte) { put64(b[8:], 1<<63) }, "ledger"},
		{"no stamp", func(b []byte) { put64(b[16:], 0) }, "ledger"},
		{"a stamp above", func(b []byte) { put64(b[16:], last+1) }, "ledger"},
		{"a byte behind the reply", func(b []byte) { b[1535] = 1 }, "stamp 0 1"},
		{"no seq: it is empty", func(b []byte) { put64(b[8:], 0); put32(b, 99); put64(b[16:], last+1) }, "stamp 0 1"},
	} {
		for slots := range 2 {
			d := booted(t, example)
			d.keep(slots, 0, 1, 99, reply(t, 0, 1, 1)) // a stamp to come
			d.keep(1-slots, 1, 1, 9, good)
			x.change(d.kept(1 - slots))
			got, _ := taleOf(d.b)
			is(t, x.what, whole(got.check()), x.want)
			holds(t, x.what, d.b)
		}
	}
	d := booted(t, example)
	d.mark(0, last+1)
	put64(d.kept(0)[8:], 1)
	checks(t, "marks and the ledger", d.b, api.OK, "mark 0", "ledger")
}

// TestP23_2Kept: what a kept reply may not be, each by itself.
func TestP23_2Kept(t *testing.T) {
	request, code := msg.EncodeRequest(api.Request{Client: 1, Seq: 5, Epoch: 1, Op: api.Getattr, Id: 256})
	is(t, "EncodeRequest", code, api.OK)
	good := reply(t, 1, 5, 3)
	spoilt := append([]byte{}, good...)
	spoilt[20] ^= 1
	for _, x := range []struct {
		what  string
		reply []byte
		want  string
	}{
		{"a good one", good, ""},
		{"of an older epoch", reply(t, 1, 5, 2), ""},
		{"of the first epoch", reply(t, 1, 5, 1), ""},
		{"of an epoch to come", reply(t, 1, 5, 4), "era 1 5"},
		{"of the last epoch of all", reply(t, 1, 5, last), "era 1 5"},
		{"a request", request, "kept 1 5"},
		{"one byte", []byte{65}, "kept 1 5"},
		{"one byte changed", spoilt, "kept 1 5"},
		{"a byte more", append(good[:len(good):len(good)], 0), "kept 1 5"},
		{"a byte less", good[:len(good)-1], "kept 1 5"},
		{"another client", reply(t, 0, 5, 3), "kept 1 5"},
		{"another seq", reply(t, 1, 6, 3), "kept 1 5"},
		{"another client, of an epoch to come", reply(t, 0, 5, 4), "kept 1 5"},
		{"another seq, of an epoch to come", reply(t, 1, 4, 4), "kept 1 5"},
		{"no such client here", reply(t, 7, 5, 3), "kept 1 5"},
		{"1400 bytes", make([]byte, 1400), "kept 1 5"},
	} {
		d := booted(t, example)
		d.mark(1, 3)
		d.keep(0, 1, 5, 9, x.reply)
		var want []string
		if x.want != "" {
			want = []string{x.want}
		}
		checks(t, x.what, d.b, api.OK, want...)
	}
}

// TestP23_2Era: without a boot block, and with an epoch above all, the epoch is 0.
func TestP23_2Era(t *testing.T) {
	d := booted(t, example)
	d.keep(0, 1, 1, 9, reply(t, 1, 1, 1))
	checks(t, "as it is", d.b, api.OK)
	d.epoch(0)
	checks(t, "epoch 0", d.b, api.OK, "era 1 1")
	d.epoch(last)
	d.keep(0, 1, 1, 9, reply(t, 1, 1, last))
	checks(t, "the last epoch", d.b, api.OK)
	d.epoch(last + 1)
	checks(t, "an epoch above all", d.b, api.OK, "boot", "era 1 1")
	d.epoch(last - 1)
	checks(t, "one less", d.b, api.OK, "era 1 1")
	d.epoch(last)
	d.block(1)[500] = 1
	checks(t, "no boot block", d.b, api.OK, "boot", "era 1 1")
}

// TestP23_2Ahead: a seq may be the watermark and Window, and no more.
func TestP23_2Ahead(t *testing.T) {
	for _, s := range []api.Shape{example, uneven, roomy, tiny} {
		for _, mark := range []uint64{0, 1, 7, last - 10} {
			for more := range s.Window + 3 {
				seq := mark + uint64(more)
				if seq == 0 {
					continue
				}
				d := booted(t, s)
				d.mark(s.Clients-1, mark)
				d.keep(0, s.Clients-1, seq, 9, reply(t, s.Clients-1, int(seq), 3))
				what := fmt.Sprint("watermark ", mark, ", window ", s.Window, ", seq ", seq)
				if more <= s.Window {
					checks(t, what, d.b, api.OK)
				} else {
					checks(t, what, d.b, api.OK, fmt.Sprint("ahead ", s.Clients-1, " ", seq))
				}
			}
		}
	}
	d := booted(t, example)
	d.mark(0, last)
	d.mark(1, last+1)
	d.keep(0, 0, last, 8, reply(t, 0, last, 3))
	d.keep(1, 1, last, 9, reply(t, 1, last, 3))
	checks(t, "a watermark that may not be", d.b, api.OK, "mark 1")
	d.mark(0, 0)
	checks(t, "the other one's is its own", d.b, api.OK, "mark 1", fmt.Sprint("ahead 0 ", last))
	d.mark(0, 5)
	d.keep(0, 0, 3, 8, reply(t, 0, 3, 3))
	checks(t, "one below its watermark", d.b, api.OK, "mark 1")
}

func TestP23_2Stamp(t *testing.T) {
	for _, x := range []struct {
		a, b uint64
		want []string
	}{
		{8, 9, nil},
		{9, 8, nil},
		{1, 2, nil},
		{9, 10, []string{"stamp 1 1"}},
		{10, 9, []string{"stamp 0 1"}},
		{last, 9, []string{"stamp 0 1"}},
		{9, 9, []string{"stamp 0 1", "stamp 1 1"}},
		{1, 1, []string{"stamp 0 1", "stamp 1 1"}},
		{11, 11, []string{"stamp 0 1", "stamp 1 1"}},
	} {
		for slot := range 2 {
			d := booted(t, example)
			d.keep(slot, 0, 1, x.a, reply(t, 0, 1, 3))
			d.keep(1-slot, 1, 1, x.b, reply(t, 1, 1, 3))
			checks(t, fmt.Sprint("stamps ", x.a, " and ", x.b), d.b, api.OK, x.want...)
		}
	}
}

// TestP23_2Double: by client and seq, two of them by their slots; and all that applies, in its order.
func TestP23_2Double(t *testing.T) {
	d := booted(t, uneven)
	d.keep(4, 1, 2, 3, reply(t, 1, 2, 3))
	d.keep(0, 1, 2, 4, []byte("no reply"))
	d.keep(2, 1, 1, 5, reply(t, 1, 1, 3))
	d.keep(3, 0, 2, 6, reply(t, 0, 2, 3))
	d.keep(1, 2, 2, 7, reply(t, 2, 2, 3))
	checks(t, "two alike", d.b, api.OK, "kept 1 2", "double 1 2")
	d.keep(0, 1, 2, 4, reply(t, 1, 2, 3))
	d.keep(4, 1, 2, 3, []byte("no reply"))
	checks(t, "by their slots", d.b, api.OK, "double 1 2", "kept 1 2")
	d.keep(2, 1, 2, 5, reply(t, 1, 2, 4))
	checks(t, "three alike", d.b, api.OK, "double 1 2", "era 1 2", "double 1 2", "kept 1 2")
	d = booted(t, uneven)
	d.keep(0, 1, 9, 4, reply(t, 1, 9, 3))
	d.keep(1, 1, 9, 10, []byte("no reply"))
	d.keep(2, 1, 9, 10, reply(t, 1, 9, 5))
	d.keep(3, 2, 9, 10, []byte("no reply"))
	checks(t, "all that applies", d.b, api.OK, "ahead 1 9",
		"double 1 9", "kept 1 9", "ahead 1 9", "stamp 1 9",
		"double 1 9", "era 1 9", "ahead 1 9", "stamp 1 9",
		"kept 2 9", "ahead 2 9", "stamp 2 9")
	d.mark(1, last+1)
	d.mark(2, 6)
	d.epoch(last + 1)
	checks(t, "with a bent watermark", d.b, api.OK, "boot", "mark 1", "era 1 9",
		"double 1 9", "kept 1 9", "stamp 1 9", "double 1 9", "era 1 9", "stamp 1 9", "kept 2 9", "stamp 2 9")
	holds(t, "with a bent watermark", d.b)
}

// TestP23_2KeptByNumbers: clients and seqs are told in the order of their numbers.
func TestP23_2KeptByNumbers(t *testing.T) {
	d := booted(t, uneven)
	for i, x := range [][2]int{{2, 30}, {0, 100}, {1, 7}, {0, 20}, {0, 9}} {
		d.keep(i, x[0], uint64(x[1]), uint64(i+1), reply(t, x[0], x[1], 1))
	}
	checks(t, "by their numbers", d.b, api.OK, "ahead 0 9", "ahead 0 20", "ahead 0 100", "ahead 1 7", "ahead 2 30")
}

// TestP23_2Parts: a line of each part, in the order of the parts.
func TestP23_2Parts(t *testing.T) {
	d := booted(t, uneven)
	d.block(1)[0] = 0
	d.slot(6)[127] = 1
	d.inode(259, 1, 6001, 99, 0, 0, 0, 0, 0, 0, 0, 0, d.l.Data+2)
	put32(d.data(2), 1)
	d.inode(256, 1, 0, 1, d.l.Data+1)
	d.inode(258, 2, 1, 1)
	d.bits(d.l.Data + 5)
	d.mark(2, last+1)
	d.keep(4, 2, 1, 1, []byte("no reply"))
	checks(t, "a line of each part", d.b, api.OK, "boot", "change 259", "record 6", "root", fmt.Sprint("long ", 256), "bent 259",
		fmt.Sprint("free ", d.l.Data+1), fmt.Sprint("lost ", d.l.Data+5), "list 258", "orphan 258", "orphan 259", "quota 6001", "mark 2", "kept 2 1")
	holds(t, "a line of each part", d.b)
}
