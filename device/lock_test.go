package device

import (
	"testing"
	"time"
)

// TestP5_12EachCallWaitsForTheLock: while the lock is held no call comes to its end. (A call that does not take the lock has ended long before the waiting is over; one that takes it can't end, however long it is.)
func TestP5_12EachCallWaitsForTheLock(t *testing.T) {
	calls := []struct {
		name string
		do   func(d *Device)
	}{
		{"Size", func(d *Device) { d.Size() }},
		{"Read", func(d *Device) { d.Read(0) }},
		{"Read of no block", func(d *Device) { d.Read(-1) }},
		{"Write", func(d *Device) { d.Write(0, make([]byte, 512)) }},
		{"Flush", func(d *Device) { d.Flush() }},
		{"Arm", func(d *Device) { d.Arm(1) }},
		{"Power", func(d *Device) { d.Power() }},
		{"Pending", func(d *Device) { d.Pending() }},
		{"Crash", func(d *Device) { d.Crash(nil) }},
		{"Durable", func(d *Device) { d.Durable() }},
	}
	devices := make([]*Device, len(calls))
	ended := make([]chan bool, len(calls))
	for i, c := range calls {
		d, begun, end := New(1), make(chan bool), make(chan bool)
		devices[i], ended[i] = d, end
		d.lock.Lock()
		go func() {
			close(begun)
			c.do(d)
			close(end)
		}()
		<-begun
	}
	time.Sleep(100 * time.Millisecond)
	for i, c := range calls {
		select {
		case <-ended[i]:
			t.Errorf("%s does not wait for the lock", c.name)
		default:
		}
		devices[i].lock.Unlock()
		<-ended[i]
		if !devices[i].lock.TryLock() {
			t.Errorf("%s does not give the lock back", c.name)
		}
	}
}
