package journal

import (
	"errors"

	"annex/api"
	"annex/device"
)

// work is what one call does on the device: the first error stays, and what would come behind it is not done.
type work struct {
	device *device.Device
	err    error
}

// begun asks for the power at once: a call that has nothing to do on the device meets that it is off, too.
func begun(d *device.Device) *work {
	w := &work{device: d}
	if !d.Power() {
		w.err = wrapped("begin", api.ErrPower)
	}
	return w
}

// read answers zeros where it can't read: they are no head, no descriptor and no commit, so that nobody goes on from them.
func (w *work) read(b int) []byte {
	if w.err == nil {
		data, code := w.device.Read(b)
		if w.err = wrapped("read", code); w.err == nil {
			return data
		}
	}
	return make([]byte, api.BlockSize)
}

func (w *work) write(b int, data []byte) {
	if w.err == nil {
		w.err = wrapped("write", w.device.Write(b, data))
	}
}

func (w *work) flush() {
	if w.err == nil {
		w.err = wrapped("flush", w.device.Flush())
	}
}

// fault is an error of the device, with what it was asked for.
type fault struct {
	doing string
	cause error
}

func (f fault) Error() string { return f.doing + ": " + f.cause.Error() }

func (f fault) Unwrap() error { return f.cause }

// wrapped makes OK nil: an Errno that is 0 is an error like any other to those who hold errors against nil.
func wrapped(doing string, code api.Errno) error {
	if code == api.OK {
		return nil
	}
	return fault{doing, code}
}

func codeOf(err error) api.Errno {
	var code api.Errno
	if errors.As(err, &code) {
		return code
	}
	return api.OK
}
