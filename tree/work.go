package tree

import (
	"annex/api"
	"annex/dir"
	"annex/file"
	"annex/inode"
	"annex/journal"
)

// work is one operation on its way. Its methods give up by panic with a status or a fault; what they have written by then is taken back at the face.
type work struct {
	tx      *journal.Tx
	layout  api.Layout
	request api.Request
	reply   api.Reply
}

// status is what a client is told; fault is an error that is no answer to anybody.
type (
	status api.Errno
	fault  api.Errno
)

// refuse gives up, if there is a reason.
func refuse(reason bool, why api.Errno) {
	if reason {
		panic(status(why))
	}
}

// must gives up with an error from below.
func must(code api.Errno) {
	if code != api.OK {
		panic(fault(code))
	}
}

// sure is for calls that answer a value and an error.
func sure[V any](v V, code api.Errno) V {
	must(code)
	return v
}

// inode is for an id that a request names. The root is always there: a device without it holds no tree.
func (w *work) inode(id int) api.Inode {
	x, code := inode.Get(w.tx, w.layout, id)
	if id == api.Root && (code == api.ErrStale || code == api.OK && x.Kind != api.Dir) {
		code = api.ErrTree
	}
	refuse(code == api.ErrStale, api.ErrStale)
	must(code)
	return x
}

func (w *work) file(id int) api.Inode {
	x := w.inode(id)
	refuse(x.Kind == api.Dir, api.ErrIsDir)
	return x
}

func (w *work) directory(id int) api.Inode {
	x := w.inode(id)
	refuse(x.Kind != api.Dir, api.ErrNotDir)
	return x
}

// find tells the id of an entry, if there is one; what it leads to is not looked at.
func (w *work) find(x api.Inode, name string) (int, bool) {
	id, code := dir.Find(w.tx, w.layout, x, name)
	if code == api.ErrNoName {
		return 0, false
	}
	must(code)
	return id, true
}

// child is for the id of an entry that is met. No entry leads to the root: that is told ahead of a look at its record.
func (w *work) child(id int) api.Inode {
	if id == api.Root {
		panic(fault(api.ErrTree))
	}
	x, code := inode.Get(w.tx, w.layout, id)
	if code == api.ErrStale {
		code = api.ErrTree
	}
	must(code)
	return x
}

// now is for an inode that has been asked for before, and may have been changed since.
func (w *work) now(id int) api.Inode {
	return sure(inode.Get(w.tx, w.layout, id))
}

// lay lays an entry into a directory: its inode then.
func (w *work) lay(in int, name string, id int) api.Inode {
	return sure(dir.Add(w.tx, w.layout, w.now(in), name, id))
}

// takeOut takes an entry out of a directory: its inode then.
func (w *work) takeOut(in int, name string) api.Inode {
	x, _, code := dir.Remove(w.tx, w.layout, w.now(in), name)
	must(code)
	return x
}

func (w *work) stamp(x api.Inode) api.Inode {
	x.Change = w.tx.Seq()
	must(inode.Put(w.tx, w.layout, x))
	return x
}

// destroy takes an entry out of a directory, and frees what it led to.
func (w *work) destroy(in int, name string, gone api.Inode) {
	w.stamp(w.takeOut(in, name))
	sure(file.Cut(w.tx, w.layout, gone, 0))
	must(inode.Free(w.tx, w.layout, gone.Id))
}

// done is the reply of an operation that came to its end.
func (w *work) done() api.Reply {
	w.reply.Client, w.reply.Seq, w.reply.Op = w.request.Client, w.request.Seq, w.request.Op
	return w.reply
}

func hasEntries(x api.Inode) bool { return x.Size > 0 }

func attrOf(x api.Inode) api.Attr {
	return api.Attr{Id: x.Id, Kind: x.Kind, Size: x.Size, Change: x.Change}
}

// bytesOf is the bytes of all files among these.
func bytesOf(list []api.Inode) int {
	n := 0
	for _, x := range list {
		if x.Kind == api.File {
			n += x.Size
		}
	}
	return n
}
