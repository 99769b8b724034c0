package server_test

import (
	"bytes"
	"encoding/binary"
	"reflect"
	"slices"
	"testing"

	"annex/api"
	"annex/device"
	"annex/journal"
	"annex/ledger"
	"annex/msg"
	"annex/plan"
	"annex/server"
	"annex/tree"
)

const last = 1 << 62 // the greatest number of all

// example is the shape of the chapter's examples.
var example = api.Shape{Clients: 2, Window: 2, Places: 1, Cache: 2, Inodes: 4, Quota: 2000, Data: 20, Journal: 27}

// shapes are narrow and wide ones.
func shapes() []api.Shape {
	return []api.Shape{
		example,
		{Clients: 1, Window: 1, Places: 1, Cache: 1, Inodes: 2, Quota: 0, Data: 8, Journal: 27},
		{Clients: 3, Window: 2, Places: 2, Cache: 4, Inodes: 6, Quota: 6000, Data: 36, Journal: 27},
		{Clients: 2, Window: 4, Places: 3, Cache: 8, Inodes: 8, Quota: 9000, Data: 60, Journal: 40},
		{Clients: 3, Window: 3, Places: 8, Cache: 2, Inodes: 5, Quota: 3000, Data: 30, Journal: 33},
		{Clients: 8, Window: 8, Places: 8, Cache: 64, Inodes: 16, Quota: 20000, Data: 104, Journal: 60},
	}
}

func is[V comparable](t *testing.T, what string, got, want V) {
	t.Helper()
	if got != want {
		t.Fatalf("%s: %#v, want %#v", what, got, want)
	}
}

func layoutOf(t *testing.T, s api.Shape) api.Layout {
	t.Helper()
	l, code := plan.Plan(s)
	is(t, "Plan", code, api.OK)
	return l
}

func imageOf(t *testing.T, s api.Shape) []byte {
	t.Helper()
	b, code := server.Format(s)
	is(t, "Format", code, api.OK)
	return b
}

func deviceOf(t *testing.T, image []byte) *device.Device {
	t.Helper()
	d, code := device.Image(image)
	is(t, "Image", code, api.OK)
	return d
}

func openOn(t *testing.T, d *device.Device) *server.Server {
	t.Helper()
	s, code := server.Open(d)
	is(t, "Open", code, api.OK)
	return s
}

// up is a server just booted for the first time, and its device.
func up(t *testing.T, s api.Shape) (*server.Server, *device.Device) {
	t.Helper()
	d := deviceOf(t, imageOf(t, s))
	return openOn(t, d), d
}

// off lets the power of a device fail: the server over it has not met that yet.
func off(t *testing.T, d *device.Device) {
	t.Helper()
	is(t, "Arm", d.Arm(1), api.OK)
	is(t, "Flush", d.Flush(), api.ErrPower)
}

func datagram(t *testing.T, r api.Request) []byte {
	t.Helper()
	b, code := msg.EncodeRequest(r)
	is(t, "EncodeRequest", code, api.OK)
	return b
}

// from is a request's head; the operation is laid on it.
func from(client, seq, ack, epoch int) api.Request {
	return api.Request{Client: client, Seq: seq, Ack: ack, Epoch: epoch}
}

func lookup(r api.Request, path string) api.Request {
	r.Op, r.Path = api.Lookup, path
	return r
}

func getattr(r api.Request, id int) api.Request {
	r.Op, r.Id = api.Getattr, id
	return r
}

func create(r api.Request, id int, name string) api.Request {
	r.Op, r.Id, r.Name = api.Create, id, name
	return r
}

func mkdir(r api.Request, id int, name string) api.Request {
	r.Op, r.Id, r.Name = api.Mkdir, id, name
	return r
}

func write(r api.Request, id, off int, data []byte) api.Request {
	r.Op, r.Id, r.Off, r.Data = api.Write, id, off, data
	return r
}

func none(t *testing.T, what string, list []api.Packet) {
	t.Helper()
	if len(list) != 0 {
		t.Fatalf("%s: %d packets, want none", what, len(list))
	}
}

// one is the only packet's reply.
func one(t *testing.T, what string, list []api.Packet, to int) api.Reply {
	t.Helper()
	if len(list) != 1 || list[0].To != to {
		t.Fatalf("%s: %v, want one packet to %d", what, list, to)
	}
	p, code := msg.DecodeReply(list[0].Data)
	is(t, what+": DecodeReply", code, api.OK)
	is(t, what+": its client", p.Client, to)
	return p
}

// refused is for a packet that tells a Status and nothing else.
func refused(t *testing.T, what string, list []api.Packet, r api.Request, epoch int, status api.Errno) {
	t.Helper()
	want := api.Reply{Client: r.Client, Seq: r.Seq, Epoch: epoch, Op: r.Op, Status: status}
	if got := one(t, what, list, r.Client); !reflect.DeepEqual(got, want) {
		t.Fatalf("%s: %+v, want %+v", what, got, want)
	}
}

func step(t *testing.T, s *server.Server) []api.Packet {
	t.Helper()
	list, code := s.Step()
	is(t, "Step", code, api.OK)
	return list
}

// comes is for a request that is to wait.
func comes(t *testing.T, s *server.Server, r api.Request) {
	t.Helper()
	before := s.Waits()
	none(t, "Receive", s.Receive(datagram(t, r)))
	before[r.Client]++
	if !slices.Equal(s.Waits(), before) {
		t.Fatalf("%+v does not wait: %v, want %v", r, s.Waits(), before)
	}
}

// does is for a request that is done at once.
func does(t *testing.T, s *server.Server, r api.Request) api.Reply {
	t.Helper()
	comes(t, s, r)
	p := one(t, "Step", step(t, s), r.Client)
	is(t, "the reply's seq", p.Seq, r.Seq)
	is(t, "the reply's operation", p.Op, r.Op)
	is(t, "the reply's epoch", p.Epoch, s.Epoch())
	return p
}

// bootBytes is a boot block.
func bootBytes(epoch uint64) []byte {
	b := make([]byte, 512)
	copy(b, "ANXB")
	binary.BigEndian.PutUint64(b[8:], epoch)
	return b
}

func samePackets(a, b []api.Packet) bool {
	return slices.EqualFunc(a, b, func(x, y api.Packet) bool { return x.To == y.To && bytes.Equal(x.Data, y.Data) })
}

func sameKept(a, b []api.Kept) bool {
	return slices.EqualFunc(a, b, func(x, y api.Kept) bool {
		return x.Client == y.Client && x.Seq == y.Seq && x.Stamp == y.Stamp && bytes.Equal(x.Data, y.Data)
	})
}

func samePending(a, b []api.Pending) bool {
	return slices.EqualFunc(a, b, func(x, y api.Pending) bool { return x.Block == y.Block && bytes.Equal(x.Data, y.Data) })
}

// told is a second telling of the chapter, over a device of its own.
type told struct {
	d     *device.Device
	j     *journal.Journal
	l     api.Layout
	epoch int
	waits [][]api.Request // by clients
	turn  int             // the client behind the one that was served last
	down  bool
}

func tellFormat(s api.Shape) ([]byte, api.Errno) {
	l, code := plan.Plan(s)
	if code != api.OK {
		return nil, code
	}
	d := device.New(l.Total)
	super, _ := plan.Super(s)
	d.Write(0, super)
	d.Write(1, bootBytes(0))
	journal.Format(d, 2, s.Journal)
	d.Flush()
	j, _, _ := journal.Open(d, 2, s.Journal)
	x := j.Begin()
	ledger.Format(x, l)
	tree.Format(x, l)
	x.Commit()
	j.Check()
	return d.Durable(), api.OK
}

func tellOpen(d *device.Device) (*told, api.Errno) {
	super, code := d.Read(0)
	if code != api.OK {
		return nil, code
	}
	shape, code := plan.ReadSuper(super)
	if code != api.OK {
		return nil, code
	}
	l, _ := plan.Plan(shape)
	if d.Size() != l.Total {
		return nil, api.ErrRoom
	}
	j, _, code := journal.Open(d, 2, shape.Journal)
	if code != api.OK {
		return nil, code
	}
	x := j.Begin()
	boot, code := x.Read(1)
	if code != api.OK {
		return nil, code
	}
	epoch := binary.BigEndian.Uint64(boot[8:])
	switch {
	case epoch > last || !bytes.Equal(boot, bootBytes(epoch)):
		return nil, api.ErrBoot
	case epoch == last:
		return nil, api.ErrEpochs
	}
	epoch++
	x.Write(1, bootBytes(epoch))
	if code := x.Commit(); code != api.OK {
		return nil, code
	}
	return &told{d: d, j: j, l: l, epoch: int(epoch), waits: make([][]api.Request, shape.Clients)}, api.OK
}

// within does something in a transaction, which is dropped if that does not commit it; an error takes the server down.
func (w *told) within(do func(x *journal.Tx) api.Errno) api.Errno {
	x := w.j.Begin()
	if x == nil {
		w.down = true
		return api.ErrPower
	}
	code := do(x)
	x.Drop()
	if code != api.OK {
		w.down = true
	}
	return code
}

func (w *told) reply(r api.Request, status api.Errno) []api.Packet {
	b, _ := msg.EncodeReply(api.Reply{Client: r.Client, Seq: r.Seq, Epoch: w.epoch, Op: r.Op, Status: status})
	return []api.Packet{{To: r.Client, Data: b}}
}

func (w *told) receive(b []byte) []api.Packet {
	r, code := msg.DecodeRequest(b)
	if w.down || code != api.OK || r.Client >= w.l.Shape.Clients || r.Seq > r.Ack+w.l.Shape.Window {
		return nil
	}
	var mark int
	var kept []byte
	var found bool
	code = w.within(func(x *journal.Tx) (code api.Errno) {
		if mark, code = ledger.Mark(x, w.l, r.Client); code == api.OK && r.Seq > mark {
			kept, found, code = ledger.Find(x, w.l, r.Client, r.Seq)
		}
		return code
	})
	same := func(o api.Request) bool { return o.Seq == r.Seq }
	switch {
	case code != api.OK || r.Seq <= mark:
		return nil
	case found:
		return []api.Packet{{To: r.Client, Data: kept}}
	case r.Op != 1 && r.Epoch != w.epoch:
		return w.reply(r, 152)
	case slices.ContainsFunc(w.waits[r.Client], same):
		return nil
	case len(w.waits[r.Client]) == w.l.Shape.Places:
		return w.reply(r, 151)
	}
	w.waits[r.Client] = append(w.waits[r.Client], r)
	return nil
}

// next takes out the request whose turn it is.
func (w *told) next() (api.Request, bool) {
	for i := range w.waits {
		c := (w.turn + i) % len(w.waits)
		if len(w.waits[c]) > 0 {
			r := w.waits[c][0]
			w.waits[c], w.turn = w.waits[c][1:], c+1
			return r, true
		}
	}
	return api.Request{}, false
}

func (w *told) step() (out []api.Packet, code api.Errno) {
	if w.down {
		return nil, api.ErrDown
	}
	r, ok := w.next()
	if !ok {
		return nil, api.OK
	}
	code = w.within(func(x *journal.Tx) api.Errno {
		mark, code := ledger.Mark(x, w.l, r.Client)
		if code != api.OK || r.Seq <= mark {
			return code
		}
		if r.Ack > mark {
			if code := ledger.Raise(x, w.l, r.Client, r.Ack); code != api.OK {
				return code
			}
		}
		p, code := tree.Do(x, w.l, r)
		if code != api.OK {
			return code
		}
		p.Epoch = w.epoch
		b, code := msg.EncodeReply(p)
		if code != api.OK {
			return code
		}
		switch code := ledger.Put(x, w.l, r.Client, r.Seq, b); code {
		case api.OK:
			out = []api.Packet{{To: r.Client, Data: b}}
			return x.Commit()
		case api.ErrCacheFull:
			out = w.reply(r, 151)
			return api.OK
		default:
			return code
		}
	})
	if code != api.OK {
		out = nil
	}
	return out, code
}

func (w *told) many() []int {
	var list []int
	if !w.down {
		for _, l := range w.waits {
			list = append(list, len(l))
		}
	}
	return list
}

func (w *told) marks() []int {
	var list []int
	if w.down || w.within(func(x *journal.Tx) api.Errno {
		for c := range w.waits {
			m, code := ledger.Mark(x, w.l, c)
			if code != api.OK {
				return code
			}
			list = append(list, m)
		}
		return api.OK
	}) != api.OK {
		return nil
	}
	return list
}

func (w *told) kept() (list []api.Kept) {
	if !w.down {
		w.within(func(x *journal.Tx) (code api.Errno) {
			list, code = ledger.All(x, w.l)
			return code
		})
	}
	return list
}

func (w *told) usage() (size, inodes int) {
	if !w.down {
		w.within(func(x *journal.Tx) (code api.Errno) {
			size, inodes, code = tree.Usage(x, w.l)
			return code
		})
	}
	return size, inodes
}
