package fsck

import (
	"annex/api"
	"annex/file"
	"annex/sum"
)

// unknown stands where a line has nothing to tell.
const unknown = "-"

// walk goes through the tree, and tells each inode once.
type walk struct {
	view  *view
	table table
	told  []bool // by slots
	lines []string
}

func treeOf(v *view) []string {
	w := walk{view: v, table: v.table()}
	root, ok := w.table.find(api.Root)
	if !ok || !w.table[root].isDir() {
		return nil
	}
	w.told = make([]bool, len(w.table))
	w.visit("", api.Root)
	return w.lines
}

// visit has the path without the slash that the root's has alone.
func (w *walk) visit(path string, id int) {
	n, ok := w.table.find(id)
	if !ok || w.told[n] {
		return
	}
	w.told[n] = true
	s := w.table[n]
	w.lines = append(w.lines, joined(w.words(path, s)))
	for _, e := range s.entries {
		w.visit(path+"/"+plain(e.Name), e.Id)
	}
}

func (w *walk) words(path string, s slot) []string {
	id, change := decimal(s.node.Id), decimal(s.node.Change)
	if s.isFile() {
		return []string{"file", path, id, decimal(s.node.Size), change, w.sum(s.node)}
	}
	if path == "" {
		path = "/"
	}
	many := decimal(len(s.entries))
	if s.noList {
		many = unknown
	}
	return []string{"dir", path, id, many, change}
}

func (w *walk) sum(x api.Inode) string {
	b, code := file.Read(w.view.tx, w.view.layout, x, 0, x.Size)
	if code != api.OK {
		return unknown
	}
	return hex(sum.Sum(b), 16)
}
