package journal_test

import (
	"fmt"
	"math/rand"
	"slices"
	"sync"
	"testing"

	"annex/api"
	"annex/device"
	"annex/journal"
)

// TestP7_3RandomCalls: the program and the second telling side by side, with power losses and crashes.
func TestP7_3RandomCalls(t *testing.T) {
	for seed := range int64(120) {
		r := rand.New(rand.NewSource(seed))
		size := 27 + r.Intn(6)
		p := formatted(t, 45, r.Intn(45-size+1), size)
		p.called("seed %d", seed)
		for range 150 {
			randomCall(p, r)
		}
	}
}

func randomCall(p *pair, r *rand.Rand) {
	p.t.Helper()
	if p.j == nil || r.Intn(60) == 0 {
		randomOpen(p, r)
		return
	}
	if p.x == nil || r.Intn(12) == 0 {
		p.begin()
		return
	}
	b := r.Intn(47) - 1
	switch r.Intn(24) {
	case 0, 1:
		p.commit()
	case 2:
		p.drop()
	case 3:
		p.check()
	case 4, 5:
		p.save()
	case 6, 7:
		p.back(r.Intn(6) - 1)
	case 8:
		p.arm(r.Intn(12))
	case 9:
		p.write(b, make([]byte, 511+r.Intn(3)))
	case 10, 11, 12, 13:
		p.read(b)
	default:
		p.write(b, someBlock(r, p.w.seq))
	}
}

func randomOpen(p *pair, r *rand.Rand) {
	p.t.Helper()
	keep := make([]bool, r.Intn(30))
	for i := range keep {
		keep[i] = r.Intn(2) == 0
	}
	p.crash(keep)
	p.arm(r.Intn(20) * r.Intn(2))
	p.open()
}

// TestP7_2RandomLogs: logs made by hand, right ones in which some bytes or blocks were changed.
func TestP7_2RandomLogs(t *testing.T) {
	for seed := range int64(1500) {
		r := rand.New(rand.NewSource(seed))
		image := randomLog(r)
		for range r.Intn(3) {
			spoilLog(r, image)
		}
		p, taken, code := opened(t, image)
		if code == api.OK && taken == 0 && !slices.Equal(image, p.d.Durable()) {
			t.Fatalf("seed %d: an Open that took nothing changed the device", seed)
		}
		if code == api.OK {
			p.put(full(1), 0)
			p.open()
		}
	}
}

func randomLog(r *rand.Rand) []byte {
	seq, place := 1+r.Intn(300), r.Intn(29)
	if r.Intn(4) == 0 {
		seq = lastSeq - r.Intn(4)
	}
	var log [][]byte
	for i := range 1 + r.Intn(8) {
		var list []put
		for _, b := range outside() {
			if r.Intn(4) == 0 {
				list = append(list, put{b, someBlock(r, (seq+i)%1000)})
			}
		}
		if next := loggedByWords(seq+i, list); len(log)+len(next) <= 29 {
			log = append(log, next...)
		}
	}
	return made(headByWords(seq, place), place, log...)
}

// spoilLog changes some byte of the first 40 of a block of the log, or lays one block over another.
func spoilLog(r *rand.Rand, image []byte) {
	a, b := 3+r.Intn(29), 3+r.Intn(29)
	if r.Intn(4) == 0 {
		copy(image[a*512:(a+1)*512], image[b*512:(b+1)*512])
		return
	}
	image[a*512+r.Intn(40)] = byte(r.Intn(4) * r.Intn(30))
}

// deeds tells in one text what a journal has done to its device when the power fails.
func deeds(seed int64) string {
	r := rand.New(rand.NewSource(seed))
	d := device.New(60)
	journal.Format(d, 3, 27)
	j, _, _ := journal.Open(d, 3, 27)
	d.Arm(60 + r.Intn(90))
	for d.Power() {
		x := j.Begin()
		for _, b := range r.Perm(60)[:1+r.Intn(24)] {
			x.Write(b, full(byte(r.Intn(256))))
		}
		x.Commit()
	}
	return fmt.Sprintf("%x %s", d.Durable(), shortPending(d.Pending()))
}

// TestP7_4TheOrderOfMapsIsNotSeen: the same calls do the same, time and again, and in many goroutines.
func TestP7_4TheOrderOfMapsIsNotSeen(t *testing.T) {
	var all [40]string
	var group sync.WaitGroup
	for i := range all {
		group.Go(func() { all[i] = deeds(int64(i % 4)) })
	}
	group.Wait()
	for i := range all {
		if all[i] != all[i%4] || all[i] != deeds(int64(i%4)) {
			t.Fatalf("the calls of %d did not do the same again", i%4)
		}
	}
}
