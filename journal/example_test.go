package journal_test

import (
	"bytes"
	"slices"
	"testing"

	"annex/api"
)

// first is the chapter's example up to the first Commit.
func first(t *testing.T) *pair {
	t.Helper()
	p := pairOf(t, make([]byte, 40*512), 2, 30)
	p.arm(33)
	p.is("Format", p.format(), api.OK)
	p.is("the operation behind Format", p.d.Flush(), api.ErrPower)
	p.e.Flush()
	p.crash(nil)
	p.open()
	p.state(1, 29, 0)
	p.begin()
	p.is("a second Begin", p.j.Begin() == nil, true)
	p.is("Write", p.write(0, full('A')), api.OK)
	p.is("Write", p.write(35, full('B')), api.OK)
	p.is("Write", p.write(0, full('C')), api.OK)
	return p
}

func TestP7_4Examples(t *testing.T) {
	p := first(t)
	p.is("Blocks", p.x.Blocks(), []int{0, 35})
	b, _ := p.read(0)
	p.is("Read(0)", string(b), string(full('C')))
	for _, b := range []int{2, 31, 40, -1} {
		p.is("Write of no block outside", p.write(b, full('A')), api.ErrPlace)
	}
	p.is("Write of 511 bytes", p.write(36, full('A')[:511]), api.ErrLength)
	p.arm(7)
	p.is("Commit", p.commit(), api.OK)
	p.state(2, 25, 2)
	p.is("six operations, and one more", p.d.Flush(), api.ErrPower)
	lasting := p.d.Durable()
	if !bytes.Equal(lasting[:512], make([]byte, 512)) || lasting[4*512] != 'C' || lasting[5*512] != 'B' {
		t.Error("the blocks stand elsewhere than in the log")
	}
	p.e.Flush()
	p.crash(nil)
	taken, _ := p.open()
	p.is("taken", taken, 1)
}

func TestP7_6Examples(t *testing.T) {
	p := first(t)
	p.commit()
	p.begin()
	b, _ := p.read(0)
	p.is("Read(0) of the next transaction", string(b), string(full('C')))
	p.drop()
	p.arm(6)
	p.is("Check", p.check(), api.OK)
	p.state(2, 29, 0)
	p.is("Check again", p.check(), api.OK)
	p.is("five operations, and one more", p.d.Flush(), api.ErrPower)
	head := p.d.Durable()[2*512 : 3*512]
	if head[15] != 2 || head[19] != 4 || !bytes.Equal(head, headByWords(2, 4)) {
		t.Errorf("the head is %s", short(head))
	}
}

func TestP7_3Examples(t *testing.T) {
	p := formatted(t, 40, 2, 30)
	p.begin()
	m, _ := p.save()
	p.write(1, full('A'))
	n, _ := p.save()
	p.write(36, full('A'))
	p.is("the marks", []int{m, n}, []int{1, 2})
	p.is("Back(1)", p.back(1), api.OK)
	p.is("Blocks", len(p.x.Blocks()), 0)
	p.is("Back(2)", p.back(2), api.ErrMark)
	m, _ = p.save()
	p.is("Save", m, 3)
}

func TestP7_4ExampleOfAFullLog(t *testing.T) {
	p := formatted(t, 100, 0, 30)
	p.put(full('A'), upTo(30, 54)...)
	p.state(2, 3, 24)
	p.put(full('B'), 60, 61)
	p.state(3, 25, 2)
	if lasting := p.d.Durable(); lasting[53*512] != 'A' || lasting[60*512] == 'B' {
		t.Error("the checkpoint did not bring home just what was committed ahead of it")
	}
}

func TestP7_9Examples(t *testing.T) {
	for k := 1; k <= 6; k++ {
		for _, last := range []bool{false, true} {
			p := first(t)
			p.arm(k)
			p.is("Commit", p.commit(), api.ErrPower)
			p.is("Begin", p.j.Begin() == nil, true)
			keep := make([]bool, len(p.d.Pending()))
			if k == 6 {
				keep[0] = last
			}
			p.crash(keep)
			taken, code := p.open()
			want := 0
			if k == 6 && last {
				want = 1
			}
			p.is("Open", []any{taken, code}, []any{want, api.OK})
		}
	}
}

func TestP7_1ExampleBytes(t *testing.T) {
	p := pairOf(t, noise(40), 2, 30)
	p.format()
	lasting := p.d.Durable()
	// The sum is of the 20 bytes ahead of it.
	want := []byte("ANXH\x00\x00\x00\x00\x00\x00\x00\x00\x00\x00\x00\x01\x00\x00\x00\x00")
	if !bytes.Equal(lasting[2*512:2*512+20], want) || !bytes.Equal(lasting[2*512:3*512], headByWords(1, 0)) {
		t.Errorf("the head is %s", short(lasting[2*512:3*512]))
	}
	if slices.Max(lasting[3*512:32*512]) != 0 {
		t.Error("the log is not of bytes 0")
	}
	if !bytes.Equal(lasting[:2*512], noise(40)[:2*512]) || !bytes.Equal(lasting[32*512:], noise(40)[32*512:]) {
		t.Error("a block outside was written")
	}
}
