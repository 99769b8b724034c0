package fsck_test

import (
	"bytes"
	"fmt"
	"runtime"
	"slices"
	"sync"
	"testing"
	"time"
	"weak"

	"annex/api"
	"annex/fsck"
)

// amiss is an image with many lines of all parts.
func amiss(t *testing.T) *disk {
	d := booted(t, roomy)
	d.block(1)[3]++
	var list []entry
	for slot := 1; slot < 40; slot++ {
		switch slot % 4 {
		case 0:
			d.slot(slot)[100] = 1
		case 1:
			d.inode(256+slot, 1, 700*slot, slot, d.l.Data+slot, d.l.Data+slot/2)
		case 2:
			d.inode(256+slot, 2, 64, 1, d.l.Data+200+slot)
			d.entries(d.l.Data+200+slot, entry{"a", 256 + slot*7%40}, entry{"b", 256 + slot*3%40})
		case 3:
			d.inode(512+slot, 1, 69632, 1)
		}
		if slot < 16 {
			list = append(list, entry{fmt.Sprint("n ", slot), 256 + slot})
		}
	}
	d.root(100, list...)
	for i := range d.block(d.l.Bits)[:50] {
		d.block(d.l.Bits)[i] ^= byte(37 * i)
	}
	for i := range 16 {
		d.keep(i, i%8, uint64(5*i+1), uint64(i%5+8), reply(t, i%7, 5*i+1, i%5+1))
	}
	d.mark(3, last+1)
	return d
}

func cases(t *testing.T) map[string][]byte {
	empty := diskOf(t, example).b
	return map[string][]byte{
		"amiss": amiss(t).b, "as it is": empty, "57 blocks": empty[:57*512], "511 bytes": empty[:511], "zeros": make([]byte, 512*58), "nothing": {},
	}
}

// answers is what the three calls answer, as one text.
func answers(image []byte) string {
	check, a := fsck.Check(image)
	sound, b := fsck.Sound(image)
	tree, c := fsck.Tree(image)
	return fmt.Sprintf("%q %d %v %d %q %d", check, a, sound, b, tree, c)
}

// TestP23_5HandedIn: an image is not changed, nor its spare room; and what becomes of it later is not seen.
func TestP23_5HandedIn(t *testing.T) {
	for what, image := range cases(t) {
		const behind = "the room behind it"
		room := append(bytes.Clone(image), behind...)
		mine := room[:len(image)]
		want := answers(bytes.Clone(image))
		for range 3 {
			check, _ := fsck.Check(mine)
			tree, _ := fsck.Tree(mine)
			fsck.Sound(mine)
			is(t, what+": the image and its room", string(room), string(image)+behind)
			lines := whole(check) + whole(tree)
			for i := range room {
				room[i] ^= 0x5a
			}
			is(t, what+": the lines behind that", whole(check)+whole(tree), lines)
			for i := range room {
				room[i] ^= 0x5a
			}
			is(t, what+": the next answers", answers(mine), want)
		}
		is(t, what+": with the room cut off", answers(slices.Clip(mine)), want)
	}
}

// TestP23_5HandedOut: whatever is written into a list, its spare room or behind it, no other list shows it.
func TestP23_5HandedOut(t *testing.T) {
	for what, image := range cases(t) {
		for name, call := range map[string]func([]byte) ([]string, api.Errno){"Check": fsck.Check, "Tree": fsck.Tree} {
			a, _ := call(image)
			want := slices.Clone(a)
			b, _ := call(image)
			room := a[:cap(a)]
			for i := range room {
				room[i] = "spoilt"
			}
			_ = append(a, "spoilt")
			_ = append(a[:0], "spoilt")
			is(t, what+": another answer of "+name, whole(b), whole(want))
			c, _ := call(image)
			is(t, what+": a later answer of "+name, whole(c), whole(want))
			is(t, what+": "+name+" of both", whole(b[:cap(b)][:len(b)]), whole(c))
		}
	}
}

// TestP23_5NotKept: an image goes when its caller lets it go, whatever is still held of the answers.
func TestP23_5NotKept(t *testing.T) {
	var held [][]string
	ask := func(image []byte) weak.Pointer[byte] {
		mine := bytes.Clone(image)
		check, _ := fsck.Check(mine)
		tree, _ := fsck.Tree(mine)
		fsck.Sound(mine)
		held = append(held, check, tree)
		return weak.Make(&mine[0])
	}
	p := ask(amiss(t).b)
	for i := 0; p.Value() != nil; i++ {
		if i == 50 {
			t.Fatal("the image is kept")
		}
		runtime.GC()
	}
	is(t, "lists", len(held), 2)
}

// TestP23_5Hands: the answer is one, however many hands there are.
func TestP23_5Hands(t *testing.T) {
	for what, image := range cases(t) {
		want := answers(image)
		for _, procs := range []int{1, 2, 3, 8, 32} {
			old := runtime.GOMAXPROCS(procs)
			for range 30 {
				is(t, fmt.Sprint(what, " with ", procs), answers(image), want)
			}
			runtime.GOMAXPROCS(old)
		}
	}
}

// TestP23_5SideBySide: several calls at the same time, over one image.
func TestP23_5SideBySide(t *testing.T) {
	for what, image := range cases(t) {
		want := answers(image)
		got := make([]string, 12)
		var all sync.WaitGroup
		for i := range got {
			all.Go(func() {
				for range 5 {
					got[i] = answers(image)
				}
			})
		}
		all.Wait()
		for _, g := range got {
			is(t, what, g, want)
		}
	}
}

// TestP23_5Ended: no goroutine is left behind. One that has told its end may need a moment to go.
func TestP23_5Ended(t *testing.T) {
	list := cases(t)
	before := runtime.NumGoroutine()
	for range 20 {
		for _, image := range list {
			answers(image)
		}
	}
	for i := 0; runtime.NumGoroutine() > before; i++ {
		if i == 200 {
			t.Fatalf("%d goroutines, %d ahead", runtime.NumGoroutine(), before)
		}
		time.Sleep(10 * time.Millisecond)
	}
}
