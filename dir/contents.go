package dir

import (
	"iter"

	"annex/api"
	"annex/file"
	"annex/journal"
	"annex/names"
)

const maxSize = entrySize * api.MaxInodes // bytes of the greatest directory

// contents are a directory's bytes: whole entries.
type contents []byte

// judge has the errors that come ahead of all others, in a call that takes a name.
func judge(x api.Inode, name string) api.Errno {
	if x.Kind != api.Dir {
		return api.ErrNoList
	}
	return names.Check(name)
}

// read tells contents that may be.
func read(t *journal.Tx, l api.Layout, x api.Inode) (contents, api.Errno) {
	if x.Size < 0 || x.Size > maxSize || x.Size%entrySize != 0 {
		return nil, api.ErrDirBent
	}
	row, code := file.Read(t, l, x, 0, x.Size)
	if code != api.OK {
		return nil, code
	}
	if c := contents(row); c.mayBe() {
		return c, api.OK
	}
	return nil, api.ErrDirBent
}

// entries hands out each entry, with the place of its first byte.
func (c contents) entries() iter.Seq2[int, entry] {
	return func(yield func(int, entry) bool) {
		for at := 0; at < len(c); at += entrySize {
			if !yield(at, c.entry(at)) {
				return
			}
		}
	}
}

func (c contents) entry(at int) entry { return entry(c[at:]) }

// first tells the place of the first entry that is so.
func (c contents) first(isSo func(entry) bool) (int, bool) {
	for at, e := range c.entries() {
		if isSo(e) {
			return at, true
		}
	}
	return 0, false
}

func (c contents) named(name string) (int, bool) {
	return c.first(func(e entry) bool { return e.name() == name })
}

func (c contents) mayBe() bool {
	times := map[string]int{}
	_, spoilt := c.first(func(e entry) bool {
		if !e.mayBe() {
			return true
		}
		times[e.name()]++
		return times[e.name()] > 1
	})
	return !spoilt
}
