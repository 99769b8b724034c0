package world

import (
	"testing"
	"time"

	"annex/api"
)

// TestP22_8EachCallWaitsForTheLock: while the lock is held no call comes to its end. (A call that does not take the lock has ended long before the waiting is over; one that takes it can't end, however long it is.)
func TestP22_8EachCallWaitsForTheLock(t *testing.T) {
	calls := []struct {
		name string
		do   func(w *World)
	}{
		{"Step", func(w *World) { w.Step(api.Op{Kind: api.OpTick, K: 1}) }},
		{"Step of no kind", func(w *World) { w.Step(api.Op{}) }},
		{"Now", func(w *World) { w.Now() }},
		{"Durable", func(w *World) { w.Durable() }},
		{"Under", func(w *World) { w.Under() }},
	}
	worlds := make([]*World, len(calls))
	ended := make([]chan bool, len(calls))
	for i, c := range calls {
		w := New(api.Shape{Clients: 1, Window: 1, Places: 1, Cache: 4, Inodes: 8, Quota: 4096, Data: 48, Journal: 40}, api.Params{Min: 2, First: 8, Max: 64})
		begun, end := make(chan bool), make(chan bool)
		worlds[i], ended[i] = w, end
		w.lock.Lock()
		go func() {
			close(begun)
			c.do(w)
			close(end)
		}()
		<-begun
	}
	time.Sleep(100 * time.Millisecond)
	for i, c := range calls {
		select {
		case <-ended[i]:
			t.Errorf("%s does not wait for the lock", c.name)
		default:
		}
		worlds[i].lock.Unlock()
		<-ended[i]
		if !worlds[i].lock.TryLock() {
			t.Errorf("%s does not give the lock back", c.name)
		}
	}
}
