package world_test

import (
	"bytes"
	"slices"
	"testing"

	"annex/api"
	"annex/device"
	"annex/msg"
	"annex/server"
)

// done is a transaction that did a request.
type done struct {
	client, seq int
	reply       api.Reply
	data        []byte // the reply's datagram
}

// lone is a server to which nothing happens: it does what another one has done, one request behind the other, and boots where that one has booted.
type lone struct {
	t     *testing.T
	d     *device.Device
	v     *server.Server
	stamp int // of the last transaction
	log   []done
	sizes map[int]int // of files
}

func loneOf(t *testing.T, s api.Shape) *lone {
	t.Helper()
	image, code := server.Format(s)
	is(t, "Format", code, api.OK)
	d, _ := device.Image(image)
	l := &lone{t: t, d: d, stamp: 1, sizes: map[int]int{}}
	l.boot()
	return l
}

func (l *lone) boot() {
	l.t.Helper()
	v, code := server.Open(l.d)
	is(l.t, "Open", code, api.OK)
	l.v = v
	l.stamp++
}

// do does a request: the datagram of its reply.
func (l *lone) do(b []byte) []byte {
	l.t.Helper()
	r, code := msg.DecodeRequest(b)
	is(l.t, "DecodeRequest", code, api.OK)
	size, inodes := l.v.Usage()
	is(l.t, "how many packets Receive has", len(l.v.Receive(b)), 0)
	list, code := l.v.Step()
	is(l.t, "Step", code, api.OK)
	is(l.t, "how many packets Step has", len(list), 1)
	reply, code := msg.DecodeReply(list[0].Data)
	is(l.t, "DecodeReply", code, api.OK)
	l.stamp++
	l.log = append(l.log, done{r.Client, r.Seq, reply, list[0].Data})
	l.quotas(r, reply, size, inodes)
	return list[0].Data
}

// quotas is P0.17: what is refused is just what would be more than there may be.
func (l *lone) quotas(r api.Request, p api.Reply, size, inodes int) {
	l.t.Helper()
	s := l.v.Shape()
	switch r.Op {
	case api.Create, api.Mkdir:
		if p.Status == api.OK || p.Status == api.ErrInodes {
			is(l.t, "whether no inode is free", p.Status == api.ErrInodes, inodes == s.Inodes)
		}
		if p.Status == api.OK && r.Op == api.Create {
			l.sizes[p.Attr.Id] = 0
		}
	case api.Write:
		if p.Status == api.OK || p.Status == api.ErrQuota {
			was := l.sizes[r.Id]
			is(l.t, "whether the bytes would be too many", p.Status == api.ErrQuota, size-was+max(was, r.Off+len(r.Data)) > s.Quota)
		}
		if p.Status == api.OK {
			l.sizes[r.Id] = p.Attr.Size
		}
	}
	is(l.t, "whether the status is of no block", p.Status == api.ErrSpace, false)
	size, inodes = l.v.Usage()
	is(l.t, "whether the quotas are kept", size <= s.Quota && inodes <= s.Inodes, true)
}

// comesTo does what the other one has done, by its epoch and its kept replies, and asks that each of these is its own too, byte by byte.
func (l *lone) comesTo(epoch int, kept []api.Kept, request func(client, seq int) []byte) {
	l.t.Helper()
	news := slices.DeleteFunc(slices.Clone(kept), func(k api.Kept) bool { return k.Stamp <= l.stamp })
	slices.SortFunc(news, func(a, b api.Kept) int { return a.Stamp - b.Stamp })
	for _, k := range news {
		for l.stamp < k.Stamp-1 {
			l.boot()
		}
		is(l.t, "the stamp", k.Stamp, l.stamp+1)
		for _, d := range l.log {
			is(l.t, "whether it is done a second time", d.client == k.Client && d.seq == k.Seq, false)
		}
		is(l.t, "whether the reply is one tree's", bytes.Equal(l.do(request(k.Client, k.Seq)), k.Data), true)
	}
	for l.v.Epoch() < epoch {
		l.boot()
	}
	is(l.t, "the epoch", l.v.Epoch(), epoch)
}
