package space_test

import (
	"bytes"
	"fmt"
	"math/rand"
	"slices"
	"testing"

	"annex/api"
	"annex/space"
)

// story is a ground, and what the second telling says of it.
type story struct {
	*ground
	r     *rand.Rand
	stays told         // by the transactions that were committed
	now   told         // as the open transaction sees it
	saves map[int]told // by mark
}

// TestP8_6Stories: calls by chance, over transactions that are committed, dropped, taken back and cut off by the power. They run side by side: one does not hear of the other.
func TestP8_6Stories(t *testing.T) {
	for seed := range int64(150) {
		t.Run(fmt.Sprint(seed), func(t *testing.T) {
			t.Parallel()
			r := rand.New(rand.NewSource(seed))
			n := 8 + r.Intn(30)
			s := &story{ground: groundOf(t, n), r: r, stays: make(told, n)}
			s.anew()
			for range 400 {
				s.step()
				s.holds()
			}
		})
	}
}

// anew is where a transaction begins.
func (s *story) anew() { s.now, s.saves = slices.Clone(s.stays), map[int]told{} }

// holds asks for everything that P8.6 tells.
func (s *story) holds() {
	s.t.Helper()
	s.used(s.now.used(), api.OK)
	for b := s.l.Data - 1; b <= s.l.Data+s.l.DataLen; b++ {
		u, code := s.now.has(s.l, b)
		s.has(b, u, code)
	}
	if want := s.now.laid(make([]byte, 512)); !bytes.Equal(s.bitmap(), want) {
		s.t.Fatalf("the bitmap is %x, want %x", s.bitmap()[:8], want[:8])
	}
}

func (s *story) step() {
	s.t.Helper()
	switch s.r.Intn(20) {
	case 0:
		s.x.Drop()
		s.begin()
		s.anew()
	case 1, 2:
		s.commit()
		s.stays = s.now
		s.anew()
	case 3, 4:
		mark, _ := s.x.Save()
		s.saves[mark] = slices.Clone(s.now)
	case 5, 6:
		s.takeBack(1 + s.r.Intn(6))
	case 7:
		s.j.Check()
	case 8:
		s.cutOff()
	case 9, 10, 11, 12, 13:
		b := s.l.Data - 1 + s.r.Intn(s.l.DataLen+2)
		s.free(b, s.now.free(s.l, b))
	default:
		s.alloc(s.now.alloc(s.l))
	}
}

func (s *story) takeBack(mark int) {
	s.t.Helper()
	if code := s.x.Back(mark); (code == api.OK) != (s.saves[mark] != nil) {
		s.t.Fatalf("Back(%d) = %d", mark, code)
	}
	if s.saves[mark] == nil {
		return
	}
	s.now = slices.Clone(s.saves[mark])
	for m := range s.saves {
		if m > mark {
			delete(s.saves, m)
		}
	}
}

// cutOff lets the power fail while the transaction is committed, and a part of what pends survive: all of it is there, or nothing.
func (s *story) cutOff() {
	s.t.Helper()
	s.d.Arm(1 + s.r.Intn(6))
	code := s.x.Commit()
	if code != api.OK && code != api.ErrPower {
		s.t.Fatalf("Commit: %d", code)
	}
	if code == api.ErrPower {
		if n, code := space.Alloc(s.x, s.l); n != 0 || code != api.ErrEnded {
			s.t.Fatalf("Alloc behind the power's loss = %d, %d", n, code)
		}
	}
	keep := make([]bool, s.r.Intn(8))
	for i := range keep {
		keep[i] = s.r.Intn(2) == 0
	}
	s.d.Crash(keep)
	s.open()
	if code == api.OK || bytes.Equal(s.bitmap(), s.now.laid(make([]byte, 512))) {
		s.stays = s.now
	}
	s.anew()
}

// TestP8_6AllOverTransactions: DataLen calls of Alloc in a row, each in a transaction of its own.
func TestP8_6AllOverTransactions(t *testing.T) {
	for _, n := range []int{8, 20, 64, 100} {
		g := groundOf(t, n)
		for i := range n {
			g.alloc(g.l.Data+i, api.OK)
			g.commit()
		}
		g.alloc(0, api.ErrSpace)
		g.used(n, api.OK)
		g.commit()
		g.alloc(0, api.ErrSpace)
	}
}

// TestP8_6GivenBackInAnyOrder: what was given back is given again, the lowest one first.
func TestP8_6GivenBackInAnyOrder(t *testing.T) {
	for seed := range int64(20) {
		g := groundOf(t, 100)
		r := rand.New(rand.NewSource(seed))
		for i := range 100 {
			g.alloc(g.l.Data+i, api.OK)
		}
		back := r.Perm(100)[:1+r.Intn(100)]
		for n, i := range back {
			g.free(g.l.Data+i, api.OK)
			g.used(99-n, api.OK)
		}
		slices.Sort(back)
		for _, i := range back {
			g.alloc(g.l.Data+i, api.OK)
		}
		g.alloc(0, api.ErrSpace)
	}
}
