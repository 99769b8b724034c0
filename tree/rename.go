package tree

import (
	"slices"

	"annex/api"
	"annex/dir"
)

func (w *work) rename() {
	r := w.request
	from := w.directory(r.Id)
	to := w.directory(r.Id2)
	id, ok := w.find(from, r.Name)
	refuse(!ok, api.ErrNoEnt)
	if r.Id2 == r.Id && r.Name2 == r.Name {
		return
	}
	moves := w.child(id)
	if moves.Kind == api.Dir {
		refuse(slices.Contains(w.inside(moves), to.Id), api.ErrInside)
	}
	if id, ok := w.find(to, r.Name2); ok {
		w.makeRoom(w.child(id), moves)
	}
	w.takeOut(from.Id, r.Name)
	w.lay(to.Id, r.Name2, moves.Id)
	w.stamp(w.now(from.Id))
	w.stamp(w.now(to.Id))
}

// makeRoom lets what stands at the new place go.
func (w *work) makeRoom(gone, moves api.Inode) {
	refuse(gone.Kind == api.Dir && moves.Kind != api.Dir, api.ErrIsDir)
	refuse(gone.Kind != api.Dir && moves.Kind == api.Dir, api.ErrNotDir)
	refuse(gone.Kind == api.Dir && hasEntries(gone), api.ErrNotEmpty)
	w.destroy(w.request.Id2, w.request.Name2, gone)
}

// inside tells the ids of a directory and of all those below it. One that is met twice would make the search endless: that is no tree.
func (w *work) inside(top api.Inode) []int {
	met := []int{top.Id}
	for row := []api.Inode{top}; len(row) > 0; row = row[1:] {
		for _, e := range sure(dir.List(w.tx, w.layout, row[0])) {
			x := w.child(e.Id)
			if x.Kind != api.Dir {
				continue
			}
			if slices.Contains(met, x.Id) {
				panic(fault(api.ErrTree))
			}
			met, row = append(met, x.Id), append(row, x)
		}
	}
	return met
}
