package rto_test

import (
	"testing"

	"annex/api"
	"annex/rto"
)

// TestP17_4Examples: the chapter's, one behind the other.
func TestP17_4Examples(t *testing.T) {
	e := started(t, small)
	look := func(what string, want api.Est, wait int) {
		t.Helper()
		is(t, what, e, want)
		is(t, "Wait behind "+what, rto.Wait(small, e), wait)
	}
	look("Start", api.Est{Rto: 8}, 8)
	e = rto.Sample(small, e, 5)
	look("Sample 5", api.Est{S8: 40, V4: 10, Rto: 15, Known: true}, 15)
	e = rto.Sample(small, e, 9)
	look("Sample 9", api.Est{S8: 44, V4: 12, Rto: 17, Known: true}, 17)
	e = rto.Sample(small, e, 1)
	look("Sample 1", api.Est{S8: 40, V4: 13, Rto: 18, Known: true}, 18)
	e = rto.Expire(small, e)
	look("Expire", api.Est{S8: 40, V4: 13, Rto: 18, Shift: 1, Known: true}, 36)
	e = rto.Expire(small, e)
	look("Expire again", api.Est{S8: 40, V4: 13, Rto: 18, Shift: 2, Known: true}, 64)
	e = rto.Expire(small, e)
	look("Expire at Max", api.Est{S8: 40, V4: 13, Rto: 18, Shift: 2, Known: true}, 64)
	e = rto.Sample(small, e, 0)
	look("Sample 0", api.Est{S8: 36, V4: 14, Rto: 18, Known: true}, 18)
	e = rto.Sample(small, started(t, small), 1000)
	look("Sample 1000", api.Est{S8: 8000, V4: 2000, Rto: 64, Known: true}, 64)
}

// TestP17_1Examples: the chapter's params that are refused.
func TestP17_1Examples(t *testing.T) {
	for _, p := range []api.Params{{Min: 2, First: 1, Max: 9}, {Min: 0, First: 1, Max: 1}, {Min: 1, First: 1, Max: 1048577}} {
		e, code := rto.Start(p)
		is(t, "Start's error", int(code), 1)
		is(t, "Start's estimate", e, api.Est{})
	}
}

// TestP17_2Example: the chapter's.
func TestP17_2Example(t *testing.T) {
	is(t, "Wait with Rto 65", rto.Wait(small, api.Est{Rto: 65}), 0)
	is(t, "Wait with Rto 64", rto.Wait(small, api.Est{Rto: 64}), 64)
}

// TestP17_4AsTheNextChapterSays: its sample of 3 ticks, behind three times that ran out.
func TestP17_4AsTheNextChapterSays(t *testing.T) {
	e := started(t, small)
	for range 3 {
		e = rto.Expire(small, e)
	}
	is(t, "Sample 3", rto.Sample(small, e, 3), api.Est{S8: 24, V4: 6, Rto: 9, Known: true})
}
