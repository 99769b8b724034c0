package tree

import (
	"annex/api"
	"annex/dir"
	"annex/file"
	"annex/inode"
	"annex/names"
)

func (w *work) lookup() {
	x := w.inode(api.Root)
	for _, name := range sure(names.Split(w.request.Path)) {
		refuse(x.Kind != api.Dir, api.ErrNotDir)
		id, ok := w.find(x, name)
		refuse(!ok, api.ErrNoEnt)
		x = w.child(id)
	}
	w.reply.Attr = attrOf(x)
}

func (w *work) getattr() {
	w.reply.Attr = attrOf(w.inode(w.request.Id))
}

func (w *work) read() {
	x := w.file(w.request.Id)
	w.reply.Data = sure(file.Read(w.tx, w.layout, x, w.request.Off, w.request.Len))
	w.reply.Attr = attrOf(x)
}

func (w *work) write() {
	x := w.file(w.request.Id)
	end := w.request.Off + len(w.request.Data)
	refuse(end > api.MaxSize, api.ErrFBig)
	growth := max(0, end-x.Size)
	all := bytesOf(sure(inode.All(w.tx, w.layout)))
	refuse(all+growth > w.layout.Shape.Quota, api.ErrQuota)
	x = sure(file.Write(w.tx, w.layout, x, w.request.Off, w.request.Data))
	w.reply.Attr = attrOf(w.stamp(x))
}

func (w *work) create() { w.bring(api.File) }

func (w *work) mkdir() { w.bring(api.Dir) }

func (w *work) bring(kind int) {
	in := w.directory(w.request.Id)
	_, there := w.find(in, w.request.Name)
	refuse(there, api.ErrExist)
	x, code := inode.New(w.tx, w.layout, kind)
	refuse(code == api.ErrInodes, api.ErrInodes)
	must(code)
	w.stamp(w.lay(in.Id, w.request.Name, x.Id))
	w.reply.Attr = attrOf(x)
}

func (w *work) remove() {
	x := w.named()
	refuse(x.Kind == api.Dir, api.ErrIsDir)
	w.destroy(w.request.Id, w.request.Name, x)
}

func (w *work) rmdir() {
	x := w.named()
	refuse(x.Kind != api.Dir, api.ErrNotDir)
	refuse(hasEntries(x), api.ErrNotEmpty)
	w.destroy(w.request.Id, w.request.Name, x)
}

// named is what a request's Id and Name lead to.
func (w *work) named() api.Inode {
	id, ok := w.find(w.directory(w.request.Id), w.request.Name)
	refuse(!ok, api.ErrNoEnt)
	return w.child(id)
}

func (w *work) readdir() {
	x := w.directory(w.request.Id)
	for _, e := range sure(dir.List(w.tx, w.layout, x)) {
		if e.Name <= w.request.Name { // no name is empty: behind an empty Name all of them stand
			continue
		}
		if len(w.reply.List) == w.request.Len {
			w.reply.More = true
			break
		}
		e.Kind = w.child(e.Id).Kind
		w.reply.List = append(w.reply.List, e)
	}
}
