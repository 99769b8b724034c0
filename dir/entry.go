package dir

import (
	"annex/api"
	"annex/names"
)

const (
	idSize    = 8                    // bytes of an id
	nameAt    = idSize + 1           // where the name begins: behind its length
	entrySize = nameAt + api.MaxName // bytes of an entry
	lastId    = 1<<49 - 1            // the greatest id
)

// entry is a name and an id as they stand in contents.
type entry [entrySize]byte

// newEntry is for names that names.Check takes.
func newEntry(name string, id int) entry {
	var e entry
	for i := range idSize {
		e[i] = byte(id >> (8 * (idSize - 1 - i)))
	}
	e[idSize] = byte(len(name))
	copy(e[nameAt:], name)
	return e
}

// id is below 0 where the eight bytes are more than an int can be: that is no id either.
func (e entry) id() int {
	n := 0
	for _, b := range e[:idSize] {
		n = n<<8 | int(b)
	}
	return n
}

// name is for lengths that a name may have.
func (e entry) name() string { return string(e[nameAt:][:e[idSize]]) }

func (e entry) mayBe() bool {
	if e[idSize] > api.MaxName || !isId(e.id()) || names.Check(e.name()) != api.OK {
		return false
	}
	return e == newEntry(e.name(), e.id()) // nothing stands behind the name
}

func isId(id int) bool { return id >= 1 && id <= lastId }
