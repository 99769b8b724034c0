package queue_test

import (
	"slices"
	"testing"

	"annex/api"
	"annex/queue"
)

// answers asks a queue for what Pop answers.
func answers(t *testing.T, q *queue.Queue[int], client, number int, ok bool) {
	t.Helper()
	c, v, some := q.Pop()
	is(t, "whose Pop's is", c, client)
	is(t, "what Pop's is", v, number)
	is(t, "whether Pop has one", some, ok)
}

// TestP14_3Examples: the chapter's, one behind the other.
func TestP14_3Examples(t *testing.T) {
	q := queue.New[int](3, 2)
	answers(t, q, 0, 0, false)

	is(t, "Push(1, 7)", q.Push(1, 7), api.OK)
	is(t, "Push(1, 8)", q.Push(1, 8), api.OK)
	is(t, "Push(1, 9)", q.Push(1, 9), api.ErrQueueFull)
	is(t, "Push(3, 7)", q.Push(3, 7), api.ErrArg)
	is(t, "Push(-1, 7)", q.Push(-1, 7), api.ErrArg)

	is(t, "Push(2, 5)", q.Push(2, 5), api.OK)
	is(t, "Push(0, 4)", q.Push(0, 4), api.OK)
	is(t, "Total", q.Total(), 4)
	is(t, "Len(1)", q.Len(1), 2)
	is(t, "Len(5)", q.Len(5), 0)
	is(t, "Each(1)", slices.Equal(q.Each(1), []int{7, 8}), true)

	answers(t, q, 0, 4, true)

	is(t, "Push(0, 3)", q.Push(0, 3), api.OK)
	answers(t, q, 1, 7, true)
	answers(t, q, 2, 5, true)
	answers(t, q, 0, 3, true)
	answers(t, q, 1, 8, true)
	answers(t, q, 0, 0, false)

	is(t, "Push(0, 1)", q.Push(0, 1), api.OK)
	is(t, "Push(1, 2)", q.Push(1, 2), api.OK)
	answers(t, q, 0, 1, true)
}

// TestP14_1Examples: the chapter's queues that are none.
func TestP14_1Examples(t *testing.T) {
	is(t, "New(0, 1)", queue.New[int](0, 1), nil)
	is(t, "New(1, 65)", queue.New[int](1, 65), nil)
}

// TestP14_2TheErrorsNumber: the chapter's.
func TestP14_2TheErrorsNumber(t *testing.T) {
	q := queue.New[int](1, 1)
	q.Push(0, 1)
	is(t, "a client whose places are taken", int(q.Push(0, 2)), 141)
	is(t, "a client that is none", int(q.Push(1, 2)), 1)
}
