package server_test

import (
	"bytes"
	"math/rand"
	"testing"

	"annex/api"
	"annex/msg"
)

// chance makes up what may come to a server, from clients that keep to no rule but to go on.
type chance struct {
	t     *testing.T
	r     *rand.Rand
	shape api.Shape
	epoch int
	top   []int    // by clients: the greatest seq so far
	ids   []int    // that were heard of
	sent  [][]byte // whatever came ahead
	heard [][]byte // whatever went out
}

func newChance(t *testing.T, s api.Shape, seed int64) *chance {
	return &chance{t: t, r: rand.New(rand.NewSource(seed)), shape: s, epoch: 1, top: make([]int, 8), ids: []int{256}}
}

func (c *chance) id() int {
	if c.r.Intn(8) == 0 {
		return (1+c.r.Intn(4))<<8 | c.r.Intn(c.shape.Inodes+1)
	}
	return c.ids[c.r.Intn(len(c.ids))]
}

func (c *chance) name() string { return string(rune('a' + c.r.Intn(4))) }

func (c *chance) path() string {
	path := ""
	for range c.r.Intn(4) {
		path += "/" + c.name()
	}
	if path == "" {
		return "/"
	}
	return path
}

func (c *chance) bytes() []byte {
	b := make([]byte, 1+c.r.Intn([]int{4, 600, 1024}[c.r.Intn(3)]))
	c.r.Read(b)
	if c.r.Intn(3) == 0 {
		copy(b, []string{"ANXD", "ANXC", "ANXH", "ANXB"}[c.r.Intn(4)]) // contents that look like the device's own blocks
	}
	return b
}

// operation lays an operation on a head.
func (c *chance) operation(r api.Request) api.Request {
	r.Op = 1 + c.r.Intn(10)
	if r.Op == api.Lookup {
		r.Path = c.path()
		return r
	}
	r.Id = c.id()
	switch r.Op {
	case api.Read:
		r.Off, r.Len = c.r.Intn(1500), 1+c.r.Intn(1024)
	case api.Write:
		r.Off, r.Data = c.r.Intn(1+c.r.Intn(5000)), c.bytes()
	case api.Create, api.Remove, api.Mkdir, api.Rmdir:
		r.Name = c.name()
	case api.Rename:
		r.Name, r.Id2, r.Name2 = c.name(), c.id(), c.name()
	case api.Readdir:
		r.Name, r.Len = []string{"", c.name()}[c.r.Intn(2)], 1+c.r.Intn(16)
	}
	return r
}

// head is near what came ahead from that client.
func (c *chance) head() api.Request {
	r := api.Request{Client: c.r.Intn(c.shape.Clients), Epoch: c.epoch}
	if c.r.Intn(30) == 0 {
		r.Client = c.r.Intn(8)
	}
	r.Seq = max(1, c.top[r.Client]+2-c.r.Intn(c.shape.Window+3))
	r.Ack = max(0, r.Seq-1-c.r.Intn(c.shape.Window+1))
	if c.r.Intn(3) == 0 {
		r.Ack = r.Seq - 1
	}
	if c.r.Intn(10) == 0 {
		r.Epoch = max(0, c.epoch-2+c.r.Intn(4))
	}
	c.top[r.Client] = max(c.top[r.Client], r.Seq)
	return r
}

func (c *chance) request() api.Request { return c.operation(c.head()) }

// datagram is mostly a request, sometimes one that came ahead, sometimes none.
func (c *chance) datagram() []byte {
	var b []byte
	switch n := c.r.Intn(20); {
	case n < 4 && len(c.sent) > 0:
		return c.sent[len(c.sent)-1-c.r.Intn(min(len(c.sent), 8))]
	case n == 4 && len(c.sent) > 0:
		b = bytes.Clone(c.sent[c.r.Intn(len(c.sent))])
		b[c.r.Intn(len(b))] ^= byte(1 + c.r.Intn(255))
	case n == 5 && len(c.heard) > 0:
		return c.heard[c.r.Intn(len(c.heard))]
	case n == 6 && c.r.Intn(2) == 0:
		b = make([]byte, c.r.Intn(1500))
		c.r.Read(b)
	default:
		b = datagram(c.t, c.request())
	}
	c.sent = append(c.sent, b)
	return b
}

// hear takes what went out: ids to be asked for.
func (c *chance) hear(list []api.Packet) {
	for _, p := range list {
		c.heard = append(c.heard, p.Data)
		if r, code := msg.DecodeReply(p.Data); code == api.OK && r.Attr.Id != 0 {
			c.ids = append(c.ids, r.Attr.Id)
			c.ids = c.ids[max(0, len(c.ids)-12):]
		}
	}
}

// survivors is a choice among as many writes as pend.
func (c *chance) survivors(pend int) []bool {
	keep := make([]bool, pend)
	most := c.r.Intn(5)
	for i := range keep {
		keep[i] = c.r.Intn(4) < most
	}
	return keep
}
