package alarm_test

import (
	"slices"
	"testing"

	"annex/alarm"
)

// answers asks an alarm for what Next answers.
func answers[K int | string](t *testing.T, a *alarm.Alarm[K], key K, time int, some bool) {
	t.Helper()
	k, at, ok := a.Next()
	is(t, "Next's key", k, key)
	is(t, "Next's time", at, time)
	is(t, "whether Next has one", ok, some)
}

// TestP16_3Examples: the chapter's, one behind the other.
func TestP16_3Examples(t *testing.T) {
	a := alarm.New[int]()
	a.Set(7, 20)
	a.Set(5, 10)
	a.Set(9, 10)
	a.Set(7, 10)
	is(t, "Len", a.Len(), 3)
	answers(t, a, 5, 10, true)
	is(t, "how many Due(9) has", len(a.Due(9)), 0)
	is(t, "Cancel(5)", a.Cancel(5), true)
	is(t, "Cancel(5) again", a.Cancel(5), false)
	at, ok := a.At(9)
	is(t, "At(9)'s time", at, 10)
	is(t, "whether At(9) has one", ok, true)
	is(t, "Due(10)", slices.Equal(a.Due(10), []int{7, 9}), true)
	is(t, "Len", a.Len(), 0)
	answers(t, a, 0, 0, false)
	a.Set(3, -1<<63)
	is(t, "Due(-2^63)", slices.Equal(a.Due(-1<<63), []int{3}), true)
}

// TestP16_3ExampleOfTexts: the chapter's.
func TestP16_3ExampleOfTexts(t *testing.T) {
	a := alarm.New[string]()
	a.Set("b", 1)
	a.Set("a", 1)
	is(t, "Due(1)", slices.Equal(a.Due(1), []string{"a", "b"}), true)
	answers(t, a, "", 0, false)
}
