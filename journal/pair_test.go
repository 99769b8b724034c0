package journal_test

import (
	"bytes"
	"fmt"
	"slices"
	"strings"
	"testing"

	"annex/api"
	"annex/device"
	"annex/journal"
)

// pair is the program's journal and the told one, each over a device of its own: each call is made of both, and their answers and devices are held against each other.
type pair struct {
	t           *testing.T
	d, e        *device.Device // the program's, the told one's
	start, size int
	j           *journal.Journal
	w           *told
	x           *journal.Tx // the newest one
	y           *toldTx
	calls       []string
}

func pairOf(t *testing.T, image []byte, start, size int) *pair {
	t.Helper()
	d, code := device.Image(image)
	e, _ := device.Image(image)
	if code != api.OK {
		t.Fatalf("Image: %d", code)
	}
	return &pair{t: t, d: d, e: e, start: start, size: size}
}

// formatted is a pair with an open journal, over a device of blocks that are not zeros.
func formatted(t *testing.T, blocks, start, size int) *pair {
	t.Helper()
	p := pairOf(t, noise(blocks), start, size)
	p.format()
	p.open()
	return p
}

// noise is an image in which each block is another one, and none is zeros.
func noise(blocks int) []byte {
	b := make([]byte, 512*blocks)
	for i := range b {
		b[i] = byte(i/512*7+i%512*3) | 1
	}
	return b
}

func full(x byte) []byte { return bytes.Repeat([]byte{x}, 512) }

// starting is a block that begins with this text, and is not zeros behind it.
func starting(s string) []byte {
	b := full('.')
	copy(b, s)
	return b
}

func (p *pair) fail(what string, got, want any) {
	p.t.Helper()
	last := p.calls[max(0, len(p.calls)-12):]
	p.t.Fatalf("behind %s: %s: %v, want %v", strings.Join(last, ", "), what, got, want)
}

func (p *pair) called(format string, args ...any) {
	p.calls = append(p.calls, fmt.Sprintf(format, args...))
}

// same holds both against each other; it asks nothing that could meet ErrPower.
func (p *pair) same(got, want any) {
	p.t.Helper()
	p.is("the answer", got, want)
	p.sameDevice()
	if p.w != nil {
		a, b, c := p.j.State()
		if s := [3]int{a, b, c}; s != p.w.state() {
			p.fail("State", s, p.w.state())
		}
	}
	if p.y != nil {
		if p.x.Seq() != p.y.seq() {
			p.fail("Seq", p.x.Seq(), p.y.seq())
		}
		if !slices.Equal(p.x.Blocks(), p.y.blocks()) {
			p.fail("Blocks", p.x.Blocks(), p.y.blocks())
		}
	}
}

func (p *pair) sameDevice() {
	p.t.Helper()
	if p.d.Power() != p.e.Power() {
		p.fail("Power", p.d.Power(), p.e.Power())
	}
	a, b := p.d.Pending(), p.e.Pending()
	if !slices.EqualFunc(a, b, samePending) {
		p.fail("what pends", shortPending(a), shortPending(b))
	}
	g, w := p.d.Durable(), p.e.Durable()
	for i := 0; i < len(g); i += 512 {
		if !bytes.Equal(g[i:i+512], w[i:i+512]) {
			p.fail(fmt.Sprintf("what lasts in block %d", i/512), short(g[i:i+512]), short(w[i:i+512]))
		}
	}
}

func samePending(a, b api.Pending) bool { return a.Block == b.Block && bytes.Equal(a.Data, b.Data) }

func short(b []byte) string { return fmt.Sprintf("%.60x", b) }

func shortPending(list []api.Pending) string {
	var s []string
	for _, p := range list {
		s = append(s, fmt.Sprintf("%d:%.8x", p.Block, p.Data))
	}
	return strings.Join(s, " ")
}

func (p *pair) format() api.Errno {
	p.t.Helper()
	p.called("Format(%d, %d)", p.start, p.size)
	got, want := journal.Format(p.d, p.start, p.size), formatByWords(p.e, p.start, p.size)
	p.j, p.w, p.x, p.y = nil, nil, nil, nil
	p.same(got, want)
	return got
}

func (p *pair) open() (int, api.Errno) {
	p.t.Helper()
	p.called("Open(%d, %d)", p.start, p.size)
	j, taken, code := journal.Open(p.d, p.start, p.size)
	w, n, e := openByWords(p.e, p.start, p.size)
	p.j, p.w, p.x, p.y = j, w, nil, nil
	p.same([]any{j != nil, taken, code}, []any{w != nil, n, e})
	return taken, code
}

func (p *pair) begin() bool {
	p.t.Helper()
	p.called("Begin")
	x, y := p.j.Begin(), p.w.begin()
	if x != nil && y != nil {
		p.x, p.y = x, y
	}
	p.same(x != nil, y != nil)
	return x != nil
}

func (p *pair) check() api.Errno {
	p.t.Helper()
	p.called("Check")
	got, want := p.j.Check(), p.w.check()
	p.same(got, want)
	return got
}

func (p *pair) read(b int) ([]byte, api.Errno) {
	p.t.Helper()
	p.called("Read(%d)", b)
	got, code := p.x.Read(b)
	want, e := p.y.read(b)
	p.same(code, e)
	if !bytes.Equal(got, want) {
		p.fail("the bytes", short(got), short(want))
	}
	return got, code
}

func (p *pair) write(b int, data []byte) api.Errno {
	p.t.Helper()
	p.called("Write(%d, %.4q.. %d bytes)", b, data, len(data))
	got, want := p.x.Write(b, data), p.y.write(b, data)
	p.same(got, want)
	return got
}

func (p *pair) save() (int, api.Errno) {
	p.t.Helper()
	p.called("Save")
	got, code := p.x.Save()
	want, e := p.y.save()
	p.same([]any{got, code}, []any{want, e})
	return got, code
}

func (p *pair) back(mark int) api.Errno {
	p.t.Helper()
	p.called("Back(%d)", mark)
	got, want := p.x.Back(mark), p.y.back(mark)
	p.same(got, want)
	return got
}

func (p *pair) commit() api.Errno {
	p.t.Helper()
	p.called("Commit")
	got, want := p.x.Commit(), p.y.commit()
	p.same(got, want)
	return got
}

func (p *pair) drop() {
	p.t.Helper()
	p.called("Drop")
	p.x.Drop()
	p.y.drop()
	p.same(nil, nil)
}

func (p *pair) arm(k int) {
	p.called("Arm(%d)", k)
	p.d.Arm(k)
	p.e.Arm(k)
}

// fails lets the power fail at once.
func (p *pair) fails() {
	p.arm(1)
	p.d.Flush()
	p.e.Flush()
}

func (p *pair) crash(keep []bool) {
	p.t.Helper()
	p.called("Crash(%v)", keep)
	p.d.Crash(keep)
	p.e.Crash(keep)
	p.j, p.w, p.x, p.y = nil, nil, nil, nil
	p.sameDevice()
}

// put is one transaction that writes these blocks.
func (p *pair) put(data []byte, blocks ...int) api.Errno {
	p.t.Helper()
	if !p.begin() {
		p.t.Fatal("Begin is nil")
	}
	for _, b := range blocks {
		p.is("Write", p.write(b, data), api.OK)
	}
	return p.commit()
}

func (p *pair) is(what string, got, want any) {
	p.t.Helper()
	if g, w := plainly(got), plainly(want); g != w {
		p.fail(what, g, w)
	}
}

// plainly tells an error by its number: as an error it has the same text as all others.
func plainly(x any) string {
	switch v := x.(type) {
	case api.Errno:
		return fmt.Sprint("code ", int(v))
	case []any:
		var s []string
		for _, y := range v {
			s = append(s, plainly(y))
		}
		return strings.Join(s, ", ")
	}
	return fmt.Sprint(x)
}

// state holds State against numbers that the test says itself.
func (p *pair) state(seq, free, away int) {
	p.t.Helper()
	a, b, c := p.j.State()
	p.is("State", []int{a, b, c}, []int{seq, free, away})
}

func upTo(from, to int) []int {
	var list []int
	for b := from; b < to; b++ {
		list = append(list, b)
	}
	return list
}
