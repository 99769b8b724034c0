package bits

import (
	"errors"

	"annex/api"
)

// Why a field cannot be read: what the inner functions give up with. They are the package's own, so that a panic of another origin is never taken for one of them.
var (
	errShort = errors.New("bits: too few bytes")
	errWide  = errors.New("bits: a number above its bound")
	errFlag  = errors.New("bits: neither 0 nor 1")
	errLong  = errors.New("bits: a text above its bound")
	errPad   = errors.New("bits: padding that is not zero")
)

// Reader reads fields one behind the other.
type Reader struct {
	b    []byte
	at   int // moves only when a field is whole, so it is also the place of the field that failed
	code api.Errno
}

// NewReader reads from b.
func NewReader(b []byte) *Reader {
	return &Reader{b: append(make([]byte, 0, len(b)), b...)}
}

// U32 reads a number of 4 bytes, at most most.
func (r *Reader) U32(most int) int {
	if r.code != api.OK {
		return 0
	}
	defer func() { r.keep(recover()) }()
	return r.bounded(narrow, most)
}

// U64 reads a number of 8 bytes, at most most.
func (r *Reader) U64(most int) int {
	if r.code != api.OK {
		return 0
	}
	defer func() { r.keep(recover()) }()
	return r.bounded(wide, most)
}

// Sum reads a sum of 8 bytes.
func (r *Reader) Sum() uint64 {
	if r.code != api.OK {
		return 0
	}
	defer func() { r.keep(recover()) }()
	s := r.number(wide)
	r.at += wide
	return s
}

// Flag reads a number of 4 bytes that is 0 or 1.
func (r *Reader) Flag() bool {
	if r.code != api.OK {
		return false
	}
	defer func() { r.keep(recover()) }()
	x := r.number(narrow)
	if x > 1 {
		panic(errFlag)
	}
	r.at += narrow
	return x == 1
}

// Text reads a text of at most most bytes.
func (r *Reader) Text(most int) string {
	if r.code != api.OK {
		return ""
	}
	defer func() { r.keep(recover()) }()
	return string(r.text(most))
}

// Bytes reads bytes, at most most.
func (r *Reader) Bytes(most int) []byte {
	if r.code != api.OK {
		return nil
	}
	defer func() { r.keep(recover()) }()
	d := r.text(most)
	return append(make([]byte, 0, len(d)), d...)
}

// Err tells the first error, and the place where its field begins; without one OK and the reader's place.
func (r *Reader) Err() (api.Errno, int) { return r.code, r.at }

// Close tells the first error, or ErrRest if bytes are left, or OK.
func (r *Reader) Close() api.Errno {
	if r.code == api.OK && r.at < len(r.b) {
		r.code = api.ErrRest
	}
	return r.code
}

// keep takes what a reading call recovered. What is not the package's own is a fault of the program, and keeping it would pass it off as a fault of the bytes.
func (r *Reader) keep(p any) {
	if p == nil {
		return
	}
	if err, ok := p.(error); ok {
		if code := codeOf(err); code != api.OK {
			r.code = code
			return
		}
	}
	panic(p)
}

// codeOf answers OK for what is none of the package's own errors.
func codeOf(err error) api.Errno {
	switch {
	case errors.Is(err, errShort):
		return api.ErrShort
	case errors.Is(err, errWide):
		return api.ErrWide
	case errors.Is(err, errFlag):
		return api.ErrFlag
	case errors.Is(err, errLong):
		return api.ErrLong
	case errors.Is(err, errPad):
		return api.ErrPad
	}
	return api.OK
}

// ahead does not move the place: a field may still turn out to be none. What it answers is the reader's own memory.
func (r *Reader) ahead(n uint64) []byte {
	left := r.b[r.at:]
	if uint64(len(left)) < n {
		panic(errShort)
	}
	return left[:n]
}

func (r *Reader) number(size uint64) uint64 {
	x := uint64(0)
	for _, c := range r.ahead(size) {
		x = x<<8 | uint64(c)
	}
	return x
}

func (r *Reader) bounded(size, most int) int {
	x := r.number(uint64(size))
	if above(x, most) {
		panic(errWide)
	}
	r.at += size
	return int(x)
}

// text answers the reader's own memory: whoever hands it out copies it.
func (r *Reader) text(most int) []byte {
	n := r.number(narrow)
	if above(n, most) {
		panic(errLong)
	}
	field := r.ahead(narrow + n + padding(n))
	for _, c := range field[narrow+n:] {
		if c != 0 {
			panic(errPad)
		}
	}
	r.at += len(field)
	return field[narrow : narrow+n]
}

// above asks the sign first: as an unsigned number a bound below 0 would be a great one.
func above(x uint64, most int) bool { return most < 0 || x > uint64(most) }
