package msg

import (
	"annex/api"
	"annex/bits"
)

// The bounds of numbers as they are read: what a field may hold is judged later, when the whole message is known.
const (
	most32 = 1<<32 - 1
	most64 = 1<<63 - 1
)

// value is what stands in a field, of one kind of field.
type value interface {
	// put lays it behind b.
	put(b []byte) []byte
	// take reads another value of its kind. Its error is the package's own; what the reader refuses, the reader keeps.
	take(r *bits.Reader) (value, api.Errno)
}

// The kinds of fields.
type (
	small   int // a number of 4 bytes
	great   int // a number of 8 bytes
	flag    bool
	path    string
	name    string
	content []byte
	attr    api.Attr
	entries []api.Entry
)

func (v small) put(b []byte) []byte { return bits.Put32(b, int(v)) }

func (small) take(r *bits.Reader) (value, api.Errno) { return small(r.U32(most32)), api.OK }

func (v great) put(b []byte) []byte { return bits.Put64(b, int(v)) }

func (great) take(r *bits.Reader) (value, api.Errno) { return great(r.U64(most64)), api.OK }

func (v flag) put(b []byte) []byte {
	if v {
		return bits.Put32(b, 1)
	}
	return bits.Put32(b, 0)
}

func (flag) take(r *bits.Reader) (value, api.Errno) { return flag(r.Flag()), api.OK }

func (v path) put(b []byte) []byte { return bits.PutText(b, string(v)) }

func (path) take(r *bits.Reader) (value, api.Errno) { return path(r.Text(api.MaxPath)), api.OK }

func (v name) put(b []byte) []byte { return bits.PutText(b, string(v)) }

func (name) take(r *bits.Reader) (value, api.Errno) { return name(r.Text(api.MaxName)), api.OK }

func (v content) put(b []byte) []byte { return bits.PutBytes(b, v) }

func (content) take(r *bits.Reader) (value, api.Errno) { return content(r.Bytes(api.MaxIO)), api.OK }

func (v attr) put(b []byte) []byte {
	b = bits.Put64(b, v.Id)
	b = bits.Put32(b, v.Kind)
	b = bits.Put32(b, v.Size)
	return bits.Put64(b, v.Change)
}

func (attr) take(r *bits.Reader) (value, api.Errno) {
	var v attr
	v.Id = r.U64(most64)
	v.Kind = r.U32(most32)
	v.Size = r.U32(most32)
	v.Change = r.U64(most64)
	return v, api.OK
}

func (v entries) put(b []byte) []byte {
	b = bits.Put32(b, len(v))
	for _, e := range v {
		b = bits.PutText(b, e.Name)
		b = bits.Put64(b, e.Id)
		b = bits.Put32(b, e.Kind)
	}
	return b
}

// take refuses a great number at once: as many entries are neither read nor given room.
func (entries) take(r *bits.Reader) (value, api.Errno) {
	n := r.U32(most32)
	if n > api.MaxList {
		return nil, api.ErrField
	}
	list := make(entries, n)
	for i := range list {
		list[i].Name = r.Text(api.MaxName)
		list[i].Id = r.U64(most64)
		list[i].Kind = r.U32(most32)
	}
	return list, api.OK
}
