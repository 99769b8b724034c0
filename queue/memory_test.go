package queue_test

import (
	"fmt"
	"math"
	"math/rand"
	"runtime"
	"slices"
	"sync"
	"testing"
	"weak"

	"annex/api"
	"annex/queue"
)

// TestP14_5EachIsNew: what a caller writes into a list, or into its spare room, or appends, no other list shows, and not the queue.
func TestP14_5EachIsNew(t *testing.T) {
	for places := 1; places <= 64; places++ {
		for gone := range min(places, 4) {
			g := groundOf(t, 2, places)
			g.fill()
			for range 2 * gone {
				g.pop()
			}
			other := g.q.Each(0)
			was := slices.Clone(other)
			list := g.q.Each(0)
			room := list[:cap(list)]
			for i := range room {
				room[i] = -1
			}
			_ = append(list, -2, -3)
			_ = append(list[:0], -4)
			is(t, "another list", slices.Equal(other, was), true)
			g.holds()
			g.push(0)
			is(t, "another list behind a Push", slices.Equal(other, was), true)
			g.holds()
			for g.pop() >= 0 {
			}
			is(t, "another list behind all Pops", slices.Equal(other, was), true)
		}
	}
}

// TestP14_5SpareRoom: of what was popped, and of what waits, nothing stands behind a list's end.
func TestP14_5SpareRoom(t *testing.T) {
	for places := 1; places <= 64; places++ {
		g := groundOf(t, 1, places)
		for g.fill(); g.q.Total() > 0; g.pop() {
			list := g.q.Each(0)
			for _, v := range list[len(list):cap(list)] {
				is(t, "the spare room", v, 0)
			}
		}
		list := g.q.Each(0)
		_ = append(list, -1)
		is(t, "Total", g.q.Total(), 0)
		g.push(0)
		g.holds()
	}
}

// TestP14_5SideBySide: queues of one size and type do not hear of one another, also at the same time.
func TestP14_5SideBySide(t *testing.T) {
	var list []*ground
	for range 8 {
		list = append(list, groundOf(t, 3, 4))
	}
	r := rand.New(rand.NewSource(5))
	for range 4000 {
		list[r.Intn(len(list))].byChance(r, 1, 60)
		for _, g := range list {
			g.holds()
		}
	}
	var all sync.WaitGroup
	codes := make([]api.Errno, 16)
	for n := range codes {
		all.Go(func() {
			q := queue.New[int](2, 64)
			for i := range 64 {
				codes[n] = max(codes[n], q.Push(1, n*64+i))
			}
			for i := range 64 {
				if _, v, _ := q.Pop(); v != n*64+i {
					codes[n] = -1
				}
			}
		})
	}
	all.Wait()
	for _, code := range codes {
		is(t, "a queue beside others", code, api.OK)
	}
}

// TestP14_2AsItIs: a slice that waits is the caller's slice: its length, its spare room, and what is written into it later.
func TestP14_2AsItIs(t *testing.T) {
	q := queue.New[[]byte](2, 3)
	mine := append(make([]byte, 0, 9), "abc"...)
	q.Push(0, mine)
	q.Push(0, nil)
	q.Push(0, []byte{})
	mine[1] = 'x'
	is(t, "Each's", string(q.Each(0)[0]), "axc")
	is(t, "Each's nil", q.Each(0)[1] == nil, true)
	is(t, "Each's empty one", q.Each(0)[2] != nil, true)
	_, got, _ := q.Pop()
	is(t, "Pop's", string(got), "axc")
	is(t, "its memory", &got[0] == &mine[0], true)
	is(t, "its spare room", cap(got), 9)
	mine[0] = 'y'
	is(t, "Pop's", string(got), "yxc")
	_, got, _ = q.Pop()
	is(t, "Pop's nil", got == nil, true)
	_, got, _ = q.Pop()
	is(t, "Pop's empty one", got != nil && len(got) == 0, true)
}

// goesThrough pushes and pops some of one type, and holds what comes out against what went in.
func goesThrough[T any](t *testing.T, same func(a, b T) bool, list ...T) {
	t.Helper()
	q := queue.New[T](2, len(list))
	for round := range 3 {
		for _, v := range list {
			is(t, "Push", q.Push(1, v), api.OK)
		}
		is(t, "Push", q.Push(1, list[0]), api.ErrQueueFull)
		is(t, "Each", slices.EqualFunc(q.Each(1), list, same), true)
		for i, v := range list {
			c, got, ok := q.Pop()
			is(t, "Pop", c == 1 && ok, true)
			if !same(got, v) {
				t.Fatalf("%T: number %d of round %d is another one", v, i, round)
			}
		}
		var zero T
		c, got, ok := q.Pop()
		is(t, "Pop of nothing", c == 0 && !ok && same(got, zero), true)
	}
}

func equal[T comparable](a, b T) bool { return a == b }

// TestP14_2AnyType: what waits may be of any type, and come twice.
func TestP14_2AnyType(t *testing.T) {
	goesThrough(t, equal[struct{}], struct{}{}, struct{}{})
	goesThrough(t, equal[string], "", "a", "a", "b")
	goesThrough(t, equal[bool], false, true, true, false)
	goesThrough[any](t, equal[any], nil, 1, "a", nil, api.ErrArg, 1)
	goesThrough[error](t, equal[error], nil, api.OK, nil, api.ErrQueueFull)
	goesThrough(t, equal[*int], nil, new(int), new(int), nil)
	goesThrough(t, equal[[3]int], [3]int{1, 2, 3}, [3]int{}, [3]int{3})
	goesThrough(t, equal[[1 << 16]byte], [1 << 16]byte{1 << 8: 3}, [1 << 16]byte{})
	bits := func(a, b float64) bool { return math.Float64bits(a) == math.Float64bits(b) }
	goesThrough(t, bits, math.NaN(), 0, math.Copysign(0, -1), math.Inf(1))
	goesThrough(t, func(a, b func()) bool { return (a == nil) == (b == nil) }, nil, func() {}, nil)
	goesThrough(t, func(a, b map[string]int) bool { return len(a) == len(b) && fmt.Sprint(a) == fmt.Sprint(b) }, map[string]int{"a": 1}, nil)
	goesThrough(t, func(a, b api.Request) bool { return fmt.Sprint(a) == fmt.Sprint(b) },
		api.Request{Client: 1, Seq: 5, Op: api.Write, Id: 257, Data: []byte("abc")}, api.Request{}, api.Request{Seq: 6})
}

// TestP14_5Nested: a queue may wait in a queue.
func TestP14_5Nested(t *testing.T) {
	inner, outer := queue.New[int](1, 1), queue.New[*queue.Queue[int]](1, 1)
	outer.Push(0, inner)
	inner.Push(0, 7)
	is(t, "the outer one", outer.Total(), 1)
	_, q, _ := outer.Pop()
	answers(t, q, 0, 7, true)
}

// great is not laid together with others in memory.
type great struct {
	next *great
	room [100]byte
}

// through lets some pass through a queue, and tells them in a way that does not hold them.
func through(q *queue.Queue[*great], many int) []weak.Pointer[great] {
	var list []weak.Pointer[great]
	for i := range many {
		v := new(great)
		q.Push(i%2, v)
		list = append(list, weak.Make(v))
	}
	for range many {
		q.Pop()
	}
	return list
}

// TestP14_3WaitsNoLonger: of what was popped the queue keeps nothing.
func TestP14_3WaitsNoLonger(t *testing.T) {
	q := queue.New[*great](2, 8)
	for _, many := range []int{1, 2, 7, 16} {
		list := through(q, many)
		runtime.GC()
		for _, p := range list {
			is(t, "what was popped", p.Value(), nil)
		}
	}
	is(t, "Total", q.Total(), 0)
	runtime.KeepAlive(q)
}
