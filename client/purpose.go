package client

import (
	"annex/api"
	"annex/names"
)

// purpose is what a wire request of a call is for.
type purpose interface {
	request(epoch int) api.Request
	take(reply api.Reply) bool // whether the call goes on behind it
}

// again looks a record up again, whose epoch has gone by.
type again struct{ record *record }

func (a again) request(epoch int) api.Request {
	return api.Request{Epoch: epoch, Op: api.Lookup, Path: a.record.path}
}

func (a again) take(reply api.Reply) bool {
	if reply.Status != api.OK || reply.Attr.Id != a.record.id {
		return false
	}
	a.record.epoch = max(a.record.epoch, reply.Epoch) // another call may have heard of a later boot
	return true
}

// operation does what the call asks for. Its records are those of H and H2, as far as the call has them.
type operation struct {
	call    api.Call
	records []*record
}

func (o operation) request(epoch int) api.Request {
	r := api.Request{
		Epoch: epoch, Op: o.call.Op, Off: o.call.Off, Len: o.call.Len,
		Path: o.call.Path, Name: o.call.Name, Name2: o.call.Name2, Data: o.call.Data,
	}
	if len(o.records) > 0 {
		r.Id = o.records[0].id
	}
	if len(o.records) > 1 {
		r.Id2 = o.records[1].id
	}
	return r
}

func (o operation) take(reply api.Reply) bool { return reply.Status == api.ErrEpoch }

// next is what is to be sent for the operation when the known epoch is this one.
func (o operation) next(epoch int) purpose {
	for _, r := range o.records {
		if r.epoch < epoch {
			return again{record: r}
		}
	}
	return o
}

// makesHandle tells whether a handle is made when the operation is done.
func (o operation) makesHandle() bool {
	return o.call.Op == api.Lookup || o.call.Op == api.Create || o.call.Op == api.Mkdir
}

// path is where that handle leads to; none, if there is no such handle.
func (o operation) path() (string, api.Errno) {
	switch o.call.Op {
	case api.Create, api.Mkdir:
		return names.Add(o.records[0].path, o.call.Name)
	}
	return o.call.Path, api.OK
}

// result is how a call ends with the reply to its last wire request. That to a path which was looked up again says nothing of what the call asked for.
func result(last purpose, reply api.Reply) api.Result {
	switch last.(type) {
	case again:
		return api.Result{Status: api.ErrStale}
	default:
		return api.Result{Status: reply.Status, Attr: reply.Attr, Data: reply.Data, List: reply.List, More: reply.More}
	}
}
