package inode_test

import (
	"bytes"
	"fmt"
	"math/rand"
	"slices"
	"testing"

	"annex/api"
	"annex/bits"
	"annex/inode"
	"annex/sum"
)

// story is a ground, and what the second telling says of it.
type story struct {
	*ground
	r      *rand.Rand
	behind []byte       // the table at first: what stands behind the last slot stays
	stays  told         // by the transactions that were committed
	now    told         // as the open transaction sees it
	saves  map[int]told // by mark
	given  map[int]bool // ids of New in what was committed
	fresh  []int        // ids of New in the open transaction
}

// TestP9_8Stories: calls by chance, over transactions that are committed, dropped, taken back and cut off by the power. They run side by side: one does not hear of the other.
func TestP9_8Stories(t *testing.T) {
	for seed := range int64(120) {
		t.Run(fmt.Sprint(seed), func(t *testing.T) {
			t.Parallel()
			r := rand.New(rand.NewSource(seed))
			s := newStory(t, r, 2+r.Intn(9))
			for range 300 {
				s.step()
				s.holds()
			}
		})
	}
}

// newStory begins with slots that are near their last use, too.
func newStory(t *testing.T, r *rand.Rand, slots int) *story {
	w := make(told, slots)
	for i := range w {
		w[i].uses = []int{0, 0, 1, 1<<32 - 1, lastUse - 2, lastUse - 1, lastUse}[r.Intn(7)]
	}
	s := &story{ground: groundWith(t, layoutOf(t, slots), w), r: r, stays: w, given: map[int]bool{}}
	s.behind = s.table()
	s.anew()
	return s
}

// anew is where a transaction begins.
func (s *story) anew() { s.now, s.saves, s.fresh = slices.Clone(s.stays), map[int]told{}, nil }

// kept is where one has been committed: no id of it was given before.
func (s *story) kept() {
	s.t.Helper()
	for _, id := range s.fresh {
		if s.given[id] {
			s.t.Fatalf("the id %d was given twice", id)
		}
		s.given[id] = true
	}
	s.stays = s.now
	s.anew()
}

// holds asks for everything that P9.7 and P9.8 tell.
func (s *story) holds() {
	s.t.Helper()
	s.all(s.now.all(), api.OK)
	for i, p := range s.now {
		for _, uses := range []int{1, p.uses - 1, p.uses, p.uses + 1} {
			id := uses<<8 | i
			x, code := s.now.get(id)
			s.get(id, x, code)
		}
	}
	for id := range s.given {
		x, code := s.now.get(id)
		s.get(id, x, code)
	}
	if !bytes.Equal(s.table(), s.now.laid(s.behind)) {
		s.t.Fatal("the table is another one")
	}
}

func (s *story) step() {
	s.t.Helper()
	switch s.r.Intn(24) {
	case 0:
		s.x.Drop()
		s.begin()
		s.anew()
	case 1, 2:
		s.commit()
		s.kept()
	case 3:
		mark, _ := s.x.Save()
		s.saves[mark] = slices.Clone(s.now)
	case 4:
		s.takeBack(1 + s.r.Intn(4))
	case 5:
		s.j.Check()
	case 6:
		s.cutOff()
	case 7, 8, 9, 10, 11, 12:
		id := s.anyId()
		s.free(id, s.now.free(id))
	case 13, 14, 15, 16:
		x := anyInode(s.r, s.l, s.anyId())
		if s.r.Intn(6) == 0 {
			x.Size -= 40000
		}
		s.put(x, s.now.put(s.l, x))
	default:
		kind := s.r.Intn(9)%3 + s.r.Intn(9)/8 + 1
		x, code := s.now.new(kind, s.x.Seq())
		s.new(kind, x, code)
		if code == api.OK {
			s.fresh = append(s.fresh, x.Id)
		}
	}
}

// anyId is most times one of a slot's last use.
func (s *story) anyId() int {
	i := s.r.Intn(len(s.now) + 1)
	if i == len(s.now) || s.r.Intn(5) == 0 {
		return s.r.Intn(1024)
	}
	return s.now[i].uses<<8 | i
}

// takeBack leaves the fresh ids that stand in no slot any more: they were not given.
func (s *story) takeBack(mark int) {
	s.t.Helper()
	if code := s.x.Back(mark); (code == api.OK) != (s.saves[mark] != nil) {
		s.t.Fatalf("Back(%d) = %d", mark, code)
	}
	if s.saves[mark] == nil {
		return
	}
	s.now = slices.Clone(s.saves[mark])
	s.fresh = slices.DeleteFunc(s.fresh, func(id int) bool { return s.now[id&255].uses < id>>8 })
	for m := range s.saves {
		if m > mark {
			delete(s.saves, m)
		}
	}
}

// cutOff lets the power fail while the transaction is committed, and a part of what pends survive: all of it is there, or nothing.
func (s *story) cutOff() {
	s.t.Helper()
	s.d.Arm(1 + s.r.Intn(7))
	code := s.x.Commit()
	if code != api.OK && code != api.ErrPower {
		s.t.Fatalf("Commit: %d", code)
	}
	if code == api.ErrPower {
		s.new(1, api.Inode{}, api.ErrEnded)
		s.all(nil, api.ErrEnded)
	}
	keep := make([]bool, s.r.Intn(8))
	for i := range keep {
		keep[i] = s.r.Intn(2) == 0
	}
	s.d.Crash(keep)
	s.open()
	if code == api.OK || bytes.Equal(s.table(), s.now.laid(s.behind)) {
		s.kept()
		return
	}
	s.anew()
}

// TestP9_7NeverAgain: one slot, taken and given back often; each id of it stays stale.
func TestP9_7NeverAgain(t *testing.T) {
	g := groundOf(t, 2)
	g.new(2, api.Inode{Id: 256, Kind: 2, Change: 1}, api.OK)
	for uses := 1; uses < 700; uses++ {
		id := uses<<8 | 1
		x := api.Inode{Id: id, Kind: 1 + uses%2, Change: g.x.Seq()}
		g.new(x.Kind, x, api.OK)
		g.get(id, x, api.OK)
		g.free(id, api.OK)
		for old := 1; old <= uses; old += 1 + uses/50 {
			g.get(old<<8|1, api.Inode{}, api.ErrStale)
			g.free(old<<8|1, api.ErrStale)
			g.put(api.Inode{Id: old<<8 | 1, Kind: 1}, api.ErrStale)
		}
		if uses%100 == 0 {
			g.commit()
		}
	}
}

// TestP9_7UsedUp: a slot's last uses; behind them it is passed by, for ever.
func TestP9_7UsedUp(t *testing.T) {
	for at := range 6 {
		w := make(told, 6)
		for s := range at {
			w[s].uses = lastUse
		}
		w[at].uses = lastUse - 3
		g := groundWith(t, layoutOf(t, 6), w)
		for uses := lastUse - 2; uses <= lastUse; uses++ {
			x := api.Inode{Id: uses<<8 | at, Kind: 1, Change: 1}
			g.new(1, x, api.OK)
			g.get(x.Id, x, api.OK)
			g.put(sample(g.l, x.Id, 1), api.OK)
			g.free(x.Id, api.OK)
		}
		for uses := 1; uses <= 3; uses++ {
			if at == 5 {
				g.new(1, api.Inode{}, api.ErrInodes)
			} else {
				id := uses<<8 | (at + 1)
				g.new(1, api.Inode{Id: id, Kind: 1, Change: 1}, api.OK)
				g.free(id, api.OK)
			}
			g.get(lastUse<<8|at, api.Inode{}, api.ErrStale)
			g.get((lastUse+1)<<8|at, api.Inode{}, api.ErrStale)
		}
		g.commit()
	}
}

// TestP9_7NoTwoTheSame: slots taken and given back by chance, over many transactions.
func TestP9_7NoTwoTheSame(t *testing.T) {
	for seed := range int64(10) {
		r := rand.New(rand.NewSource(seed))
		g := groundOf(t, 2+r.Intn(20))
		seen := map[int]bool{}
		var live []int
		for range 600 {
			if r.Intn(2) == 0 && len(live) > 0 {
				i := r.Intn(len(live))
				g.free(live[i], api.OK)
				live = slices.Delete(live, i, i+1)
			} else if x, code := inode.New(g.x, g.l, 1); code == api.OK {
				if seen[x.Id] {
					t.Fatalf("the id %d comes again", x.Id)
				}
				seen[x.Id] = true
				live = append(live, x.Id)
			}
			if r.Intn(10) == 0 {
				g.commit()
			}
		}
		for id := range seen {
			if _, code := inode.Get(g.x, g.l, id); (code == api.OK) != slices.Contains(live, id) {
				t.Fatalf("Get(%d) = %d", id, code)
			}
		}
	}
}

// TestP9_1LastStamps: a journal made by hand, at its last numbers: the change is the transaction's number, also that of one that can't be committed.
func TestP9_1LastStamps(t *testing.T) {
	for _, seq := range []int{api.MaxNumber - 1, api.MaxNumber, api.MaxNumber + 1} {
		g := groundOf(t, 4)
		head := bits.Put64([]byte("ANXH\x00\x00\x00\x00"), seq)
		head = bits.Put32(head, 0)
		head = bits.PutSum(head, sum.Sum(head))
		g.d.Write(g.l.Journal, append(head, make([]byte, 512-len(head))...))
		g.d.Flush()
		g.open()
		x := api.Inode{Id: 256, Kind: 2, Change: seq}
		g.new(2, x, api.OK)
		if seq <= api.MaxNumber {
			g.get(256, x, api.OK)
			continue
		}
		g.get(256, api.Inode{}, api.ErrRecord)
		if code := g.x.Commit(); code != api.ErrSeqs {
			t.Errorf("Commit = %d", code)
		}
	}
}
