package device_test

import (
	"bytes"
	"fmt"
	"slices"
	"strings"
	"testing"

	"annex/api"
	"annex/device"
)

// The chapter told a second time, in another way: told keeps texts, that nobody can change, and looks for a block's newest bytes among all that pends.

type line struct {
	block int
	data  string
}

type told struct {
	lasts []string
	pends []line
	armed bool
	left  int // Writes and Flushes that go well before the one at which the power fails
	off   bool
}

func toldOf(image string) *told {
	w := &told{}
	for at := 0; at < len(image); at += 512 {
		w.lasts = append(w.lasts, image[at:at+512])
	}
	return w
}

func (w *told) no(b int) bool { return b < 0 || b >= len(w.lasts) }

func (w *told) read(b int) (string, api.Errno) {
	if w.no(b) {
		return "", api.ErrBlock
	}
	if w.off {
		return "", api.ErrPower
	}
	for _, l := range slices.Backward(w.pends) {
		if l.block == b {
			return l.data, api.OK
		}
	}
	return w.lasts[b], api.OK
}

func (w *told) fails() bool {
	if !w.off && w.armed {
		w.off = w.left == 0
		w.left--
	}
	return w.off
}

func (w *told) write(b int, data string) api.Errno {
	switch {
	case w.no(b):
		return api.ErrBlock
	case len(data) != 512:
		return api.ErrLength
	case w.fails():
		return api.ErrPower
	}
	w.pends = append(w.pends, line{b, data})
	return api.OK
}

func (w *told) flush() api.Errno {
	if w.fails() {
		return api.ErrPower
	}
	for _, l := range w.pends {
		w.lasts[l.block] = l.data
	}
	w.pends = nil
	return api.OK
}

func (w *told) arm(k int) api.Errno {
	switch {
	case k < 0:
		return api.ErrArg
	case w.off:
		return api.ErrPower
	}
	w.armed, w.left = k > 0, k-1
	return api.OK
}

func (w *told) crash(keep []bool) {
	for i := 0; i < len(w.pends) && i < len(keep); i++ {
		if keep[i] {
			w.lasts[w.pends[i].block] = w.pends[i].data
		}
	}
	w.pends, w.armed, w.off = nil, false, false
}

func (w *told) durable() string { return strings.Join(w.lasts, "") }

// short tells bytes in few words: runs of one byte.
func short(data string) string {
	var out strings.Builder
	for at, runs := 0, 0; at < len(data); runs++ {
		if runs == 6 {
			return fmt.Sprintf("%s .. (%d bytes)", out.String(), len(data))
		}
		end := at
		for end < len(data) && data[end] == data[at] {
			end++
		}
		fmt.Fprintf(&out, " %d*%02x", end-at, data[at])
		at = end
	}
	return fmt.Sprintf("[%s]", out.String())
}

func linesOf(list []api.Pending) []line {
	var out []line
	for _, p := range list {
		out = append(out, line{p.Block, string(p.Data)})
	}
	return out
}

func shortLines(list []line) string {
	var out []string
	for _, l := range list {
		out = append(out, fmt.Sprintf("(%d, %s)", l.block, short(l.data)))
	}
	return strings.Join(out, " ")
}

// sameRead holds one Read against the words.
func sameRead(t *testing.T, d *device.Device, w *told, b int) {
	t.Helper()
	got, e := d.Read(b)
	want, f := w.read(b)
	if string(got) != want || e != f {
		t.Errorf("Read(%d) is %s, %d; want %s, %d", b, short(string(got)), e, short(want), f)
	}
}

// sameState holds all that can be seen of a device without changing it against the words.
func sameState(t *testing.T, d *device.Device, w *told) {
	t.Helper()
	if d.Size() != len(w.lasts) {
		t.Errorf("Size is %d, want %d", d.Size(), len(w.lasts))
	}
	if d.Power() == w.off {
		t.Errorf("Power is %v", d.Power())
	}
	if got := linesOf(d.Pending()); !slices.Equal(got, w.pends) {
		t.Errorf("Pending is %s, want %s", shortLines(got), shortLines(w.pends))
	}
	if got := string(d.Durable()); got != w.durable() {
		t.Errorf("Durable is %s, want %s", short(got), short(w.durable()))
	}
	for b := -1; b <= len(w.lasts); b++ {
		sameRead(t, d, w, b)
	}
}

func is(t *testing.T, what string, got, want api.Errno) {
	t.Helper()
	if got != want {
		t.Errorf("%s: %d, want %d", what, got, want)
	}
}

// full is a block full of one byte.
func full(x byte) []byte { return bytes.Repeat([]byte{x}, 512) }

func fullText(x byte) string { return string(full(x)) }

// counted is an image of n blocks, no two of them the same.
func counted(n int) []byte {
	data := make([]byte, 512*n)
	for i := range data {
		data[i] = byte(i*7 + i/512*3 + i/512/256)
	}
	for b := range n {
		data[512*b], data[512*b+511] = byte(b), byte(b>>8)
	}
	return data
}

func imageOf(t *testing.T, data []byte) *device.Device {
	t.Helper()
	d, e := device.Image(data)
	if d == nil || e != api.OK {
		t.Fatalf("Image of %d bytes: %d", len(data), e)
	}
	return d
}
