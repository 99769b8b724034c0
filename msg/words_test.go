package msg_test

import (
	"bytes"
	"encoding/binary"
	"math"

	"annex/api"
)

// cursor reads fields as chapter 1 has them; its first error stays.
type cursor struct {
	b    []byte
	code api.Errno
}

func (c *cursor) take(n int) []byte {
	if c.code == api.OK && len(c.b) < n {
		c.code = api.ErrShort
	}
	if c.code != api.OK {
		return make([]byte, n)
	}
	field := c.b[:n]
	c.b = c.b[n:]
	return field
}

func (c *cursor) u32() int { return int(binary.BigEndian.Uint32(c.take(4))) }

func (c *cursor) u64() int {
	x := binary.BigEndian.Uint64(c.take(8))
	if x > math.MaxInt64 {
		c.code = api.ErrWide
		return 0
	}
	return int(x)
}

func (c *cursor) text(most int) string {
	n := c.u32()
	if c.code == api.OK && n > most {
		c.code = api.ErrLong
	}
	if c.code != api.OK {
		return ""
	}
	field := c.take((n + 3) / 4 * 4)
	if c.code == api.OK && len(bytes.Trim(field[n:], "\x00")) > 0 {
		c.code = api.ErrPad
	}
	if c.code != api.OK {
		return ""
	}
	return string(field[:n])
}

func (c *cursor) flag() bool {
	x := c.u32()
	if c.code == api.OK && x > 1 {
		c.code = api.ErrFlag
	}
	return c.code == api.OK && x == 1
}

func (c *cursor) end() api.Errno {
	if c.code == api.OK && len(c.b) > 0 {
		return api.ErrRest
	}
	return c.code
}

// openByWords says the errors 1 to 3 of P4.4.
func openByWords(magic string, b []byte) (*cursor, api.Errno) {
	if len(b) > 1400 {
		return nil, api.ErrBig
	}
	if !bytes.HasPrefix(b, []byte(magic)) {
		return nil, api.ErrMagic
	}
	if len(b) < 12 || !bytes.Equal(summed(b[:len(b)-8]), b) {
		return nil, api.ErrSum
	}
	return &cursor{b: b[4 : len(b)-8]}, api.OK
}

// decodeRequestByWords says P4.4 for requests.
func decodeRequestByWords(b []byte) (api.Request, api.Errno) {
	c, code := openByWords("ANQ1", b)
	if code != api.OK {
		return api.Request{}, code
	}
	r := api.Request{Client: c.u32(), Seq: c.u64(), Ack: c.u64(), Epoch: c.u64(), Op: c.u32()}
	if c.code != api.OK {
		return api.Request{}, c.code
	}
	if code := requestHeadByWords(r); code != api.OK {
		return api.Request{}, code
	}
	if r.Op != 1 {
		r.Id = c.u64()
	}
	switch r.Op {
	case 1:
		r.Path = c.text(384)
	case 3:
		r.Off, r.Len = c.u32(), c.u32()
	case 4:
		r.Off, r.Data = c.u32(), []byte(c.text(1024))
	case 5, 6, 7, 8:
		r.Name = c.text(23)
	case 9:
		r.Name, r.Id2, r.Name2 = c.text(23), c.u64(), c.text(23)
	case 10:
		r.Len, r.Name = c.u32(), c.text(23)
	}
	if code := c.end(); code != api.OK {
		return api.Request{}, code
	}
	if code := requestByWords(r); code != api.OK {
		return api.Request{}, code
	}
	return r, api.OK
}

// decodeReplyByWords says P4.4 for replies.
func decodeReplyByWords(b []byte) (api.Reply, api.Errno) {
	c, code := openByWords("ANR1", b)
	if code != api.OK {
		return api.Reply{}, code
	}
	r := api.Reply{Client: c.u32(), Seq: c.u64(), Epoch: c.u64(), Op: c.u32(), Status: api.Errno(c.u32())}
	if c.code != api.OK {
		return api.Reply{}, c.code
	}
	if code := replyHeadByWords(r); code != api.OK {
		return api.Reply{}, code
	}
	switch {
	case r.Status != 0, r.Op == 6, r.Op == 8, r.Op == 9:
	case r.Op == 10:
		n := c.u32()
		if c.code == api.OK && n > 16 {
			return api.Reply{}, api.ErrField
		}
		for i := 0; i < n && c.code == api.OK; i++ {
			r.List = append(r.List, api.Entry{Name: c.text(23), Id: c.u64(), Kind: c.u32()})
		}
		r.More = c.flag()
	default:
		r.Attr = api.Attr{Id: c.u64(), Kind: c.u32(), Size: c.u32(), Change: c.u64()}
		if r.Op == 3 {
			r.Data = []byte(c.text(1024))
		}
	}
	if code := c.end(); code != api.OK {
		return api.Reply{}, code
	}
	if code := replyByWords(r); code != api.OK {
		return api.Reply{}, code
	}
	return r, api.OK
}
