package alarm_test

import (
	"fmt"
	"math"
	"runtime"
	"slices"
	"strings"
	"sync"
	"testing"
	"unsafe"
	"weak"

	"annex/alarm"
)

// TestP16_4DueIsNew: what a caller writes into a list, or into its spare room, or appends, no other list shows, and not the alarm.
func TestP16_4DueIsNew(t *testing.T) {
	for many := range 70 {
		g := groundOf[int](t)
		for k := range many {
			g.set(k, k)
			g.set(1000+k, 1000)
			g.set(2000+k, 2000)
		}
		other := g.a.Due(1000)
		was := slices.Clone(other)
		g.now.due(1000)
		for k := range many {
			g.set(k, k)
		}
		list := g.a.Due(many)
		g.now.due(many)
		room := list[:cap(list)]
		for i := range room {
			room[i] = -1
		}
		_ = append(list, -2, -3)
		_ = append(list[:0], -4)
		is(t, "another list", slices.Equal(other, was), true)
		g.holds()
		_ = append(g.a.Due(0), 5, 6, 7)
		g.set(-1, 2000)
		g.drain()
		is(t, "another list behind all", slices.Equal(other, was), true)
	}
}

// TestP16_4SpareRoom: behind a list's end stands nothing of what came or stays.
func TestP16_4SpareRoom(t *testing.T) {
	for many := range 70 {
		a := alarm.New[int]()
		for k := range 2 * many {
			a.Set(k+1, k)
		}
		list := a.Due(many - 1)
		is(t, "how many are due", len(list), many)
		for _, k := range list[len(list):cap(list)] {
			is(t, "the spare room", k, 0)
		}
	}
}

// TestP16_4SideBySide: alarms of one type do not hear of one another, also at the same time.
func TestP16_4SideBySide(t *testing.T) {
	var list []*ground[int]
	for range 6 {
		list = append(list, groundOf[int](t))
	}
	for i := range 2000 {
		g := list[i*i%7%6]
		switch i % 5 {
		case 0:
			g.cancel(i % 23)
		case 1:
			g.due(i % 29)
		default:
			g.set(i%23, i%31)
		}
		for _, g := range list {
			g.holds(i % 23)
		}
	}
	var all sync.WaitGroup
	came := make([]int, 16) // a number for the keys that came, in their order
	for n := range came {
		all.Go(func() {
			a := alarm.New[int]()
			for i := range 500 {
				a.Set(i, -i)
				a.Set(i/2, n)
				a.Cancel(i / 3)
			}
			for _, k := range a.Due(math.MaxInt) {
				came[n] = came[n]*31 + k
			}
		})
	}
	all.Wait()
	for _, c := range came {
		is(t, "an alarm beside others", c, came[0])
	}
}

// text is new memory of its own, which is gone when nobody has it any more.
func text(n int) (string, weak.Pointer[byte]) {
	s := strings.Clone(fmt.Sprint(n, strings.Repeat("x", 5000)))
	return s, weak.Make(unsafe.StringData(s))
}

// setTexts sets so many texts, and tells them in a way that does not hold them.
func setTexts(a *alarm.Alarm[string], many int) []weak.Pointer[byte] {
	var list []weak.Pointer[byte]
	for n := range many {
		s, p := text(n)
		a.Set(s, n*7%many)
		list = append(list, p)
	}
	return list
}

// held tells how many of the texts somebody still has.
func held(list []weak.Pointer[byte]) int {
	runtime.GC()
	many := 0
	for _, p := range list {
		if p.Value() != nil {
			many++
		}
	}
	return many
}

// TestP16_4NothingBehind: of a key that was cancelled, due, or set anew by an equal one the alarm has nothing any more.
func TestP16_4NothingBehind(t *testing.T) {
	for _, many := range []int{1, 2, 3, 8, 9, 30, 200} {
		a := alarm.New[string]()
		list := setTexts(a, many)
		is(t, "how many are held", held(list), many)
		for n := 0; n < many; n += 3 {
			s, _ := text(n)
			is(t, "Cancel", a.Cancel(s), true)
		}
		is(t, "how many are held of those that stay", held(list), a.Len())
		a.Due(many / 2)
		is(t, "how many are held of those not due", held(list), a.Len())
		again := setTexts(a, many)
		is(t, "how many are held of the old ones", held(list), 0)
		is(t, "how many are held of the new ones", held(again), many)
		a.Due(many)
		is(t, "how many are held of none", held(again), 0)
		runtime.KeepAlive(a)
	}
}

// TestP16_4TheOtherZero: the two zeros of the floats are one key; the one that was set last is told.
func TestP16_4TheOtherZero(t *testing.T) {
	minus := math.Copysign(0, -1)
	for _, zeros := range [][2]float64{{0, minus}, {minus, 0}} {
		a := alarm.New[float64]()
		a.Set(1, 1)
		a.Set(zeros[0], 5)
		a.Set(zeros[1], 1)
		is(t, "Len", a.Len(), 2)
		at, ok := a.At(zeros[0])
		is(t, "At", ok && at == 1, true)
		k, _, _ := a.Next()
		is(t, "Next's sign", math.Signbit(k), math.Signbit(zeros[1]))
		list := a.Due(1)
		is(t, "Due", slices.Equal(list, []float64{0, 1}), true)
		is(t, "Due's sign", math.Signbit(list[0]), math.Signbit(zeros[1]))
		a.Set(zeros[0], 1)
		is(t, "Cancel", a.Cancel(zeros[1]), true)
		is(t, "Len", a.Len(), 0)
	}
}

// bytesInUse is what is in use behind a collection.
func bytesInUse() int {
	runtime.GC()
	var m runtime.MemStats
	runtime.ReadMemStats(&m)
	return int(m.HeapAlloc)
}

// TestP16_4Room: what an alarm of a few keys takes does not hang on how many there once were.
func TestP16_4Room(t *testing.T) {
	const many = 1 << 17 // at least 24 bytes each
	for _, leave := range []func(a *alarm.Alarm[int]){
		func(a *alarm.Alarm[int]) { a.Due(many - 4) },
		func(a *alarm.Alarm[int]) {
			for k := range many - 3 {
				a.Cancel(k)
			}
		},
	} {
		before := bytesInUse()
		a := alarm.New[int]()
		for k := range many {
			a.Set(k, k)
		}
		is(t, "whether many take much", bytesInUse()-before > 16*many, true)
		leave(a)
		is(t, "Len", a.Len(), 3)
		is(t, "whether few take little", bytesInUse()-before < many, true)
		runtime.KeepAlive(a)
	}
}
