package tree_test

import (
	"slices"
	"strings"

	"annex/api"
	"annex/dir"
	"annex/file"
	"annex/inode"
	"annex/journal"
)

// teller is the second telling of the chapter, by calls of the layers below. It looks at all that may be wrong ahead of the first write: it has nothing to take back.
type teller struct {
	t *journal.Tx
	l api.Layout
}

// told is how a telling ends: with a Status, with an error, or with neither.
type told struct{ status, code api.Errno }

func (a told) bad() bool { return a != told{} }

func status(s api.Errno) told { return told{status: s} }

func code(e api.Errno) told { return told{code: e} }

func (w teller) do(r api.Request) (api.Reply, api.Errno) {
	var p api.Reply
	var a told
	switch r.Op {
	case 1:
		p.Attr, a = w.lookup(r)
	case 2:
		p.Attr, a = w.getattr(r)
	case 3:
		p.Data, p.Attr, a = w.read(r)
	case 4:
		p.Attr, a = w.write(r)
	case 5:
		p.Attr, a = w.make(r, 1)
	case 6:
		a = w.remove(r, 1)
	case 7:
		p.Attr, a = w.make(r, 2)
	case 8:
		a = w.remove(r, 2)
	case 9:
		a = w.rename(r)
	case 10:
		p.List, p.More, a = w.readdir(r)
	}
	if a.code != api.OK {
		return api.Reply{}, a.code
	}
	p.Client, p.Seq, p.Op, p.Status = r.Client, r.Seq, r.Op, a.status
	return p, api.OK
}

// asked is what a request's id leads to; kind 0: whatever it is.
func (w teller) asked(id, kind int) (api.Inode, told) {
	x, e := inode.Get(w.t, w.l, id)
	none := e == api.ErrStale
	switch {
	case !none && e != api.OK:
		return x, code(e)
	case id == 256 && (none || x.Kind == 1):
		return x, code(api.ErrTree)
	case none:
		return x, status(api.ErrStale)
	case kind == 1 && x.Kind == 2:
		return x, status(api.ErrIsDir)
	case kind == 2 && x.Kind == 1:
		return x, status(api.ErrNotDir)
	}
	return x, told{}
}

// met is what an entry's id leads to.
func (w teller) met(id int) (api.Inode, told) {
	x, e := inode.Get(w.t, w.l, id)
	if e == api.ErrStale || id == 256 {
		e = api.ErrTree
	}
	return x, code(e)
}

// entry is the id that a name has in a directory; 0: there is no such name.
func (w teller) entry(x api.Inode, name string) (int, told) {
	all, e := dir.List(w.t, w.l, x)
	if e != api.OK {
		return 0, code(e)
	}
	if i, ok := slices.BinarySearchFunc(all, api.Entry{Name: name}, byName); ok {
		return all[i].Id, told{}
	}
	return 0, told{}
}

// child is the inode of a name in a directory.
func (w teller) child(x api.Inode, name string) (api.Inode, told) {
	id, a := w.entry(x, name)
	if a.bad() {
		return x, a
	}
	if id == 0 {
		return x, status(api.ErrNoEnt)
	}
	return w.met(id)
}

func attr(x api.Inode) api.Attr {
	return api.Attr{Id: x.Id, Kind: x.Kind, Size: x.Size, Change: x.Change}
}

func (w teller) lookup(r api.Request) (api.Attr, told) {
	x, a := w.asked(256, 0)
	for _, name := range strings.FieldsFunc(r.Path, func(c rune) bool { return c == '/' }) {
		if a.bad() {
			break
		}
		if x.Kind == 1 {
			return api.Attr{}, status(api.ErrNotDir)
		}
		x, a = w.child(x, name)
	}
	if a.bad() {
		return api.Attr{}, a
	}
	return attr(x), a
}

func (w teller) getattr(r api.Request) (api.Attr, told) {
	x, a := w.asked(r.Id, 0)
	if a.bad() {
		return api.Attr{}, a
	}
	return attr(x), a
}

func (w teller) read(r api.Request) ([]byte, api.Attr, told) {
	x, a := w.asked(r.Id, 1)
	if a.bad() {
		return nil, api.Attr{}, a
	}
	b, e := file.Read(w.t, w.l, x, r.Off, r.Len)
	return b, attr(x), code(e)
}

func (w teller) write(r api.Request) (api.Attr, told) {
	x, a := w.asked(r.Id, 1)
	if a.bad() {
		return api.Attr{}, a
	}
	end := r.Off + len(r.Data)
	if end > 136*512 {
		return api.Attr{}, status(api.ErrFBig)
	}
	all, e := inode.All(w.t, w.l)
	sum := 0
	for _, y := range all {
		switch {
		case y.Id == x.Id:
			sum += max(x.Size, end)
		case y.Kind == 1:
			sum += y.Size
		}
	}
	if e == api.OK && sum > w.l.Shape.Quota {
		return api.Attr{}, status(api.ErrQuota)
	}
	if e == api.OK {
		x, e = file.Write(w.t, w.l, x, r.Off, r.Data)
	}
	if e == api.OK {
		e = w.stamp(&x)
	}
	return attr(x), code(e)
}

func (w teller) stamp(x *api.Inode) api.Errno {
	x.Change = w.t.Seq()
	return inode.Put(w.t, w.l, *x)
}

func (w teller) make(r api.Request, kind int) (api.Attr, told) {
	in, a := w.asked(r.Id, 2)
	if a.bad() {
		return api.Attr{}, a
	}
	id, a := w.entry(in, r.Name)
	if a.bad() {
		return api.Attr{}, a
	}
	if id != 0 {
		return api.Attr{}, status(api.ErrExist)
	}
	x, e := inode.New(w.t, w.l, kind)
	if e == api.ErrInodes {
		return api.Attr{}, status(e)
	}
	if e == api.OK {
		in, e = dir.Add(w.t, w.l, in, r.Name, x.Id)
	}
	if e == api.OK {
		e = w.stamp(&in)
	}
	return attr(x), code(e)
}

func (w teller) remove(r api.Request, kind int) told {
	in, a := w.asked(r.Id, 2)
	if a.bad() {
		return a
	}
	x, a := w.child(in, r.Name)
	switch {
	case a.bad():
		return a
	case kind == 1 && x.Kind == 2:
		return status(api.ErrIsDir)
	case kind == 2 && x.Kind == 1:
		return status(api.ErrNotDir)
	case x.Kind == 2 && x.Size > 0:
		return status(api.ErrNotEmpty)
	}
	return code(w.away(&in, r.Name, x))
}

// away is what REMOVE writes.
func (w teller) away(in *api.Inode, name string, x api.Inode) api.Errno {
	y, _, e := dir.Remove(w.t, w.l, *in, name)
	if e != api.OK {
		return e
	}
	*in = y
	if e := w.stamp(in); e != api.OK {
		return e
	}
	if _, e = file.Cut(w.t, w.l, x, 0); e != api.OK {
		return e
	}
	return inode.Free(w.t, w.l, x.Id)
}

func (w teller) rename(r api.Request) told {
	from, a := w.asked(r.Id, 2)
	if a.bad() {
		return a
	}
	to, a := w.asked(r.Id2, 2)
	if a.bad() {
		return a
	}
	id, a := w.entry(from, r.Name)
	if a.bad() {
		return a
	}
	if id == 0 {
		return status(api.ErrNoEnt)
	}
	if from.Id == to.Id && r.Name == r.Name2 {
		return told{}
	}
	x, a := w.met(id)
	if !a.bad() && x.Kind == 2 {
		a = w.outside(x, to.Id)
	}
	if a.bad() {
		return a
	}
	return w.moveTo(r, from, to, x)
}

// outside searches a directory, level by level.
func (w teller) outside(top api.Inode, id int) told {
	times := map[int]int{top.Id: 1}
	for level := []api.Inode{top}; len(level) > 0; {
		var next []api.Inode
		for _, d := range level {
			all, e := dir.List(w.t, w.l, d)
			if e != api.OK {
				return code(e)
			}
			for _, e := range all {
				x, a := w.met(e.Id)
				if a.bad() {
					return a
				}
				if x.Kind == 1 {
					continue
				}
				if times[x.Id]++; times[x.Id] == 2 {
					return code(api.ErrTree)
				}
				next = append(next, x)
			}
		}
		level = next
	}
	if times[id] > 0 {
		return status(api.ErrInside)
	}
	return told{}
}

func (w teller) moveTo(r api.Request, from, to, x api.Inode) told {
	one, two := &from, &to
	if from.Id == to.Id {
		two = one // a change of the one is seen in the other
	}
	id, a := w.entry(to, r.Name2)
	if a.bad() {
		return a
	}
	if id != 0 {
		gone, a := w.met(id)
		switch {
		case a.bad():
			return a
		case gone.Kind == 2 && x.Kind == 1:
			return status(api.ErrIsDir)
		case gone.Kind == 1 && x.Kind == 2:
			return status(api.ErrNotDir)
		case gone.Kind == 2 && gone.Size > 0:
			return status(api.ErrNotEmpty)
		}
		if e := w.away(two, r.Name2, gone); e != api.OK {
			return code(e)
		}
	}
	y, _, e := dir.Remove(w.t, w.l, *one, r.Name)
	if e != api.OK {
		return code(e)
	}
	*one = y
	if y, e = dir.Add(w.t, w.l, *two, r.Name2, x.Id); e != api.OK {
		return code(e)
	}
	*two = y
	if e := w.stamp(one); e != api.OK {
		return code(e)
	}
	return code(w.stamp(two))
}

func (w teller) readdir(r api.Request) ([]api.Entry, bool, told) {
	x, a := w.asked(r.Id, 2)
	if a.bad() {
		return nil, false, a
	}
	all, e := dir.List(w.t, w.l, x)
	if e != api.OK {
		return nil, false, code(e)
	}
	all = slices.DeleteFunc(all, func(e api.Entry) bool { return strings.Compare(e.Name, r.Name) <= 0 })
	more := len(all) > r.Len
	all = all[:min(len(all), r.Len)]
	for i := range all {
		y, a := w.met(all[i].Id)
		if a.bad() {
			return nil, false, a
		}
		all[i].Kind = y.Kind
	}
	return all, more, told{}
}
