package client

import (
	"slices"

	"annex/api"
)

// comeTo lets the time come to now, as the transport does.
func (c *Client) comeTo(now int) { c.now = min(max(c.now, now), api.MaxNumber) }

// record is what the table has under a number; nil, if it has nothing there.
func (c *Client) record(h int) *record {
	if h < 0 || h >= len(c.table) {
		return nil
	}
	return c.table[h]
}

// moveOn lets the row send, from its first one on, as far as the window is open. What a call needs is found out only then: another one may have looked its record up meanwhile, or a boot may have been seen.
func (c *Client) moveOn() {
	for len(c.row) > 0 {
		f, epoch := c.row[0], c.transport.Epoch()
		next := f.operation.next(epoch)
		seq, code := c.transport.Send(c.now, next.request(epoch))
		if code == api.ErrWindow {
			return
		}
		c.row = slices.Delete(c.row, 0, 1)
		if code != api.OK {
			c.end(f, api.Result{Status: code})
			continue
		}
		f.last, f.wires = next, append(f.wires, seq)
	}
}

// waitsFor tells whether the call sent that wire request last. Those that it sent ahead of it have their replies.
func (f *flight) waitsFor(seq int) bool {
	many := len(f.wires)
	return many > 0 && f.wires[many-1] == seq
}

// answered lets a call whose wire request has its reply want to send again, or end.
func (c *Client) answered(f *flight, reply api.Reply) {
	if f.last.take(reply) {
		c.row = append(c.row, f)
		return
	}
	r := result(f.last, reply)
	if r.Status == api.OK && f.operation.makesHandle() {
		path, _ := f.operation.path() // Start has seen to it that there is one
		r.Handle, r.Status = c.hold(&record{id: r.Attr.Id, epoch: reply.Epoch, path: path})
	}
	c.end(f, r)
}

// hold puts a record under the least free number.
func (c *Client) hold(r *record) (int, api.Errno) {
	for h := range c.table {
		if c.table[h] == nil {
			c.table[h] = r
			return h, api.OK
		}
	}
	return 0, api.ErrHandles
}

// end lets a call end with r, in which its number and Op are still to be said.
func (c *Client) end(f *flight, r api.Result) {
	r.Call, r.Op = f.number, f.operation.call.Op
	c.results = append(c.results, r)
	at := slices.Index(c.flying, f)
	c.flying = slices.Delete(c.flying, at, at+1)
}
