package ledger_test

import (
	"bytes"
	"fmt"
	"math/rand"
	"slices"
	"testing"

	"annex/api"
	"annex/ledger"
)

// story is a ledger, and what happens to it by chance.
type story struct {
	*ground
	r     *rand.Rand
	saves map[int]told // by mark
}

func newStory(t *testing.T, seed int64) *story {
	r := rand.New(rand.NewSource(seed))
	g := groundOf(t, 1+r.Intn(4), 1+r.Intn(5))
	return &story{ground: g, r: r, saves: map[int]told{}}
}

// TestP13_7Stories: calls by chance, over transactions that are committed, dropped, taken back and cut off by the power.
func TestP13_7Stories(t *testing.T) {
	for seed := range int64(80) {
		t.Run(fmt.Sprint(seed), func(t *testing.T) {
			t.Parallel()
			s := newStory(t, seed)
			for range 250 {
				s.step()
				s.holds()
			}
			s.same("the story")
		})
	}
}

func (s *story) step() {
	s.t.Helper()
	c := s.r.Intn(s.l.Shape.Clients)
	m, _ := s.now.mark(c)
	switch s.r.Intn(20) {
	case 0:
		s.drop()
		clear(s.saves)
	case 1, 2:
		s.commit()
		clear(s.saves)
	case 3:
		mark, _ := s.x.Save()
		s.saves[mark] = s.now.clone()
	case 4:
		s.takeBack(1 + s.r.Intn(3))
	case 5:
		s.cutOff()
		clear(s.saves)
	case 6:
		is(s.t, "Check", s.j.Check(), api.OK)
	case 7, 8, 9, 10:
		s.raise(c, max(0, m+s.r.Intn(6)-2))
	case 11:
		s.raise(c+s.r.Intn(3)-1, s.r.Intn(20)-3)
	case 12:
		s.put(c+s.r.Intn(3)-1, s.r.Intn(20)-3, text(s.r.Intn(1403)))
	default:
		if len(s.x.Blocks()) <= 21 {
			s.put(c, max(1, m+s.r.Intn(7)-1), text(1+s.r.Intn(1400)))
		}
	}
}

// holds asks for everything that can be told.
func (s *story) holds() {
	s.t.Helper()
	s.all()
	for c := -1; c <= s.l.Shape.Clients; c++ {
		m, _ := s.mark(c)
		for seq := m - 4; seq <= m+7; seq++ {
			s.find(c, seq)
		}
	}
}

func (s *story) takeBack(mark int) {
	s.t.Helper()
	saved, ok := s.saves[mark]
	is(s.t, "Back", s.x.Back(mark) == api.OK, ok)
	if !ok {
		return
	}
	s.now = saved.clone()
	for m := range s.saves {
		if m > mark {
			delete(s.saves, m)
		}
	}
}

// cutOff lets the power fail while the transaction is committed, and a part of what pends survive: all of it is there, or nothing.
func (s *story) cutOff() {
	s.t.Helper()
	s.d.Arm(1 + s.r.Intn(12))
	code := s.x.Commit()
	if code != api.OK && code != api.ErrPower {
		s.t.Fatalf("Commit: %d", code)
	}
	keep := make([]bool, s.r.Intn(12))
	for i := range keep {
		keep[i] = s.r.Intn(2) == 0
	}
	s.d.Crash(keep)
	was := s.now
	s.open()
	if code == api.OK || bytes.Equal(s.seen(), was.bytes) {
		s.now = was
		s.x.Drop()
		s.kept()
	}
}

// pair is a client and a seq.
type pair struct{ client, seq int }

// TestP13_7WhatGoes: by the calls' answers alone: what is kept stays till another Put takes its slot, and what goes might go.
func TestP13_7WhatGoes(t *testing.T) {
	for seed := range int64(60) {
		r := rand.New(rand.NewSource(seed))
		clients, cache := 1+r.Intn(8), 1+r.Intn(9)
		g := groundOf(t, clients, cache)
		kept := map[pair]api.Kept{}
		for range 300 {
			c := r.Intn(clients)
			m, _ := ledger.Mark(g.x, g.l, c)
			if r.Intn(3) == 0 {
				is(t, "Raise", ledger.Raise(g.x, g.l, c, m+r.Intn(4)), api.OK)
			} else {
				after(g, kept, pair{c, m + 1 + r.Intn(4)}, text(1+r.Intn(30)))
			}
			if r.Intn(5) == 0 || len(g.x.Blocks()) > 20 {
				is(t, "Commit", g.x.Commit(), api.OK)
				g.x = g.j.Begin()
			}
		}
	}
}

// after puts a reply, and brings what is kept up to date.
func after(g *ground, kept map[pair]api.Kept, p pair, b string) {
	g.t.Helper()
	mayGo := leaving(g, kept)
	_, there := kept[p]
	code := ledger.Put(g.x, g.l, p.client, p.seq, []byte(b))
	list := byPair(g)
	switch {
	case there:
		is(g.t, "Put of what is kept", code, api.ErrKept)
	case len(kept) == g.l.Shape.Cache && len(mayGo) == 0:
		is(g.t, "Put where nothing may go", code, api.ErrCacheFull)
	default:
		is(g.t, "Put", code, api.OK)
		if len(kept) == g.l.Shape.Cache {
			gone(g, kept, list, mayGo)
		}
		kept[p] = api.Kept{Client: p.client, Seq: p.seq, Stamp: g.x.Seq(), Data: []byte(b)}
	}
	is(g.t, "how many are kept", len(list), len(kept))
	for q, k := range kept {
		is(g.t, "the reply", string(list[q].Data), string(k.Data))
		is(g.t, "its stamp", list[q].Stamp, k.Stamp)
		found, ok, code := g.asked(q.client, q.seq)
		is(g.t, "Find", string(found), string(k.Data))
		is(g.t, "Find", ok && code == api.OK, true)
	}
}

// leaving are those kept at or below their clients' watermarks.
func leaving(g *ground, kept map[pair]api.Kept) []pair {
	var list []pair
	for p := range kept {
		if m, _ := ledger.Mark(g.x, g.l, p.client); p.seq <= m {
			list = append(list, p)
		}
	}
	return list
}

// gone takes the one out that is not there any more: it might go, and none that might has a less stamp.
func gone(g *ground, kept, list map[pair]api.Kept, mayGo []pair) {
	g.t.Helper()
	for p, k := range kept {
		if _, ok := list[p]; ok {
			continue
		}
		is(g.t, "whether it might go", slices.Contains(mayGo, p), true)
		for _, q := range mayGo {
			is(g.t, "whether another one is older", kept[q].Stamp < k.Stamp, false)
		}
		delete(kept, p)
		return
	}
	g.t.Fatal("nothing has gone")
}

// byPair is what All answers; no two have one client and seq.
func byPair(g *ground) map[pair]api.Kept {
	g.t.Helper()
	all, code := ledger.All(g.x, g.l)
	is(g.t, "All", code, api.OK)
	list := map[pair]api.Kept{}
	for _, k := range all {
		list[pair{k.Client, k.Seq}] = k
	}
	is(g.t, "pairs of client and seq", len(list), len(all))
	return list
}

// TestP13_7NeverFull: as long as the cache holds as many as there are above the watermarks no Put is refused.
func TestP13_7NeverFull(t *testing.T) {
	for _, c := range []struct{ clients, window int }{{1, 1}, {1, 8}, {2, 2}, {3, 1}, {8, 8}, {4, 3}} {
		g := groundOf(t, c.clients, c.clients*c.window)
		r := rand.New(rand.NewSource(int64(c.clients)))
		next := make([]int, c.clients)
		for range 400 {
			client := r.Intn(c.clients)
			next[client]++
			ack := max(0, next[client]-1-r.Intn(c.window))
			is(t, "Raise", g.raise(client, ack), api.OK)
			reply := text(1 + r.Intn(20))
			is(t, "Put", g.put(client, next[client], reply), api.OK)
			g.has(client, next[client], reply)
			m, _ := g.mark(client)
			for seq := m + 1; seq <= next[client]; seq++ {
				_, ok, _ := g.find(client, seq)
				is(t, "whether it is kept", ok, true)
			}
			g.commit()
		}
	}
}

// TestP13_7Committed: it is there for later transactions, in the log alone, at home, and opened anew.
func TestP13_7Committed(t *testing.T) {
	g := begun(t, true)
	g.raise(1, 1)
	there := func() {
		t.Helper()
		g.stands(0, 0)
		g.stands(1, 1)
		g.has(0, 1, "a")
		is(t, "All", g.listed(), "0/1/2/a 1/1/3/c ")
	}
	there()
	g.commit()
	there()
	is(t, "Check", g.j.Check(), api.OK)
	there()
	home, _ := g.d.Read(g.l.Ledger + 1)
	is(t, "the device", string(home[8:25]), "\x00\x00\x00\x00\x00\x00\x00\x01\x00\x00\x00\x00\x00\x00\x00\x02a")
	g.d.Crash(nil)
	g.open()
	there()
}
