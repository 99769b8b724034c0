package bits

import (
	"errors"
	"fmt"
	"runtime"
	"testing"

	"annex/api"
)

// caught answers what a call panicked with, or nil.
func caught(call func()) (p any) {
	defer func() { p = recover() }()
	call()
	return nil
}

func TestOtherPanicsGoOn(t *testing.T) {
	for _, p := range []any{"a text", 7, errors.New("another error"), api.ErrShort} {
		r := NewReader(nil)
		if got := caught(func() { r.keep(p) }); got != p {
			t.Errorf("keep(%v) went on with %v", p, got)
		}
		if code, _ := r.Err(); code != api.OK {
			t.Errorf("keep(%v) was kept as %d", p, code)
		}
	}
}

func TestReadingCallsLetOtherPanicsGoOn(t *testing.T) {
	for i, call := range []func(r *Reader){
		func(r *Reader) { r.U32(9) },
		func(r *Reader) { r.U64(9) },
		func(r *Reader) { r.Sum() },
		func(r *Reader) { r.Flag() },
		func(r *Reader) { r.Text(9) },
		func(r *Reader) { r.Bytes(9) },
	} {
		bent := NewReader(make([]byte, 8))
		bent.at = -1 // no call leads here: it stands for a fault of the program
		if _, ok := caught(func() { call(bent) }).(runtime.Error); !ok {
			t.Errorf("call %d hid a fault of the program", i)
		}
		bent.code = api.ErrWide
		if p := caught(func() { call(bent) }); p != nil {
			t.Errorf("call %d was tried by a reader that has an error: %v", i, p)
		}
	}
}

func TestOwnErrorsAreKeptWrappedToo(t *testing.T) {
	for err, code := range map[error]api.Errno{errShort: api.ErrShort, errWide: api.ErrWide, errFlag: api.ErrFlag, errLong: api.ErrLong, errPad: api.ErrPad} {
		for _, p := range []error{err, fmt.Errorf("deeper: %w", err)} {
			r := NewReader(nil)
			r.keep(p)
			if got, _ := r.Err(); got != code {
				t.Errorf("keep(%v) was kept as %d, want %d", p, got, code)
			}
		}
	}
}
