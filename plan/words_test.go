package plan_test

import (
	"encoding/binary"
	"hash/fnv"
	"math"
	"math/rand"
	"testing"

	"annex/api"
	"annex/plan"
)

// small is the chapter's example.
var small = api.Shape{Clients: 2, Window: 4, Places: 4, Cache: 8, Inodes: 16, Quota: 8192, Data: 80, Journal: 27}

// number is one of a shape's eight.
type number struct {
	name        string
	of          func(s *api.Shape) *int
	least, most int
}

// theNumbers stand in the superblock's order.
func theNumbers() []number {
	return []number{
		{"Clients", func(s *api.Shape) *int { return &s.Clients }, 1, 8},
		{"Window", func(s *api.Shape) *int { return &s.Window }, 1, 8},
		{"Places", func(s *api.Shape) *int { return &s.Places }, 1, 8},
		{"Cache", func(s *api.Shape) *int { return &s.Cache }, 1, 64},
		{"Inodes", func(s *api.Shape) *int { return &s.Inodes }, 2, 256},
		{"Quota", func(s *api.Shape) *int { return &s.Quota }, 0, 524288},
		{"Data", func(s *api.Shape) *int { return &s.Data }, 1, 4096},
		{"Journal", func(s *api.Shape) *int { return &s.Journal }, 27, 512},
	}
}

// region is a line of P6.1's table.
type region struct{ number, first, blocks int }

// needByWords counts one by one where the program divides.
func needByWords(s api.Shape) int {
	need := 0
	for rest := s.Quota; rest > 0; rest -= 512 {
		need++
	}
	return need + s.Inodes + s.Inodes + s.Inodes + s.Inodes
}

func regionsByWords(s api.Shape) (list []region, total int) {
	table := 0
	for rest := s.Inodes; rest > 0; rest -= 4 {
		table++
	}
	for i, blocks := range []int{1, 1, s.Journal, 1 + s.Cache + s.Cache + s.Cache, 1, table, s.Data} {
		list = append(list, region{i + 1, total, blocks})
		total += blocks
	}
	return list, total
}

// planByWords says P6.1.
func planByWords(s api.Shape) (api.Layout, api.Errno) {
	for _, n := range theNumbers() {
		if x := *n.of(&s); x < n.least || x > n.most {
			return api.Layout{}, api.ErrShape
		}
	}
	r, total := regionsByWords(s)
	if s.Data < needByWords(s) || total > 4096 {
		return api.Layout{}, api.ErrRoom
	}
	return api.Layout{
		Boot:    r[1].first,
		Journal: r[2].first, JournalLen: r[2].blocks,
		Ledger: r[3].first, LedgerLen: r[3].blocks,
		Bits: r[4].first, BitsLen: r[4].blocks,
		Table: r[5].first, TableLen: r[5].blocks,
		Data: r[6].first, DataLen: r[6].blocks,
		Total: total,
		Shape: s,
	}, api.OK
}

// blockOf lays eight numbers as a superblock, whatever they are, with a right sum.
func blockOf(s api.Shape) []byte {
	b := make([]byte, 512)
	copy(b, "ANXS")
	for i, n := range theNumbers() {
		binary.BigEndian.PutUint32(b[4+4*i:], uint32(*n.of(&s)))
	}
	resum(b)
	return b
}

// resum lays the sum of the first 36 bytes behind them.
func resum(b []byte) {
	h := fnv.New64a()
	h.Write(b[:36])
	binary.BigEndian.PutUint64(b[36:], h.Sum64())
}

// readByWords says P6.3.
func readByWords(b []byte) (api.Shape, api.Errno) {
	if len(b) != 512 || b[0] != 'A' || b[1] != 'N' || b[2] != 'X' || b[3] != 'S' {
		return api.Shape{}, api.ErrSuper
	}
	h := fnv.New64a()
	h.Write(b[:36])
	if binary.BigEndian.Uint64(b[36:]) != h.Sum64() {
		return api.Shape{}, api.ErrSuperSum
	}
	for _, x := range b[44:] {
		if x != 0 {
			return api.Shape{}, api.ErrSuper
		}
	}
	var s api.Shape
	for i, n := range theNumbers() {
		*n.of(&s) = int(binary.BigEndian.Uint32(b[4+4*i:]))
	}
	if _, code := planByWords(s); code != api.OK {
		return api.Shape{}, code
	}
	return s, api.OK
}

// whereByWords says P6.4.
func whereByWords(l api.Layout, b int) (int, int) {
	if fit, code := planByWords(l.Shape); code != api.OK || fit != l {
		return 0, 0
	}
	list, _ := regionsByWords(l.Shape)
	for _, r := range list {
		for place := range r.blocks {
			if r.first+place == b {
				return r.number, place
			}
		}
	}
	return 0, 0
}

// fitting makes a shape that Plan takes: what its numbers leave free is at chance.
func fitting(chance *rand.Rand) api.Shape {
	for {
		var s api.Shape
		for _, n := range theNumbers() {
			*n.of(&s) = n.least + chance.Intn(n.most-n.least+1)
		}
		s.Data = needByWords(s) + chance.Intn(400)
		if chance.Intn(4) == 0 {
			s.Data = needByWords(s)
		}
		if _, code := planByWords(s); code == api.OK {
			return s
		}
	}
}

// fittings has the chapter's example, the least and the greatest of shapes, and some at chance.
func fittings(n int) []api.Shape {
	list := []api.Shape{
		small,
		{Clients: 1, Window: 1, Places: 1, Cache: 1, Inodes: 2, Quota: 0, Data: 8, Journal: 27},
		{Clients: 8, Window: 8, Places: 8, Cache: 64, Inodes: 256, Quota: 524288, Data: 2048, Journal: 512},
		{Clients: 8, Window: 8, Places: 8, Cache: 64, Inodes: 256, Quota: 524288, Data: 3324, Journal: 512},
	}
	chance := rand.New(rand.NewSource(6))
	for len(list) < n {
		list = append(list, fitting(chance))
	}
	return list
}

// edges are numbers in and around the bounds of n, and far outside.
func (n number) edges() []int {
	return []int{
		math.MinInt, -1 << 32, -1, 0, 1, n.least - 1, n.least, n.least + 1,
		n.most - 1, n.most, n.most + 1, 1<<31 - 1, 1 << 31, 1<<32 - 1, 1 << 32, 1<<32 + n.least, math.MaxInt,
	}
}

func with(s api.Shape, n number, x int) api.Shape {
	*n.of(&s) = x
	return s
}

func planned(t *testing.T, s api.Shape) api.Layout {
	t.Helper()
	l, code := plan.Plan(s)
	if code != api.OK {
		t.Fatalf("Plan(%v): %d", s, code)
	}
	return l
}

func written(t *testing.T, s api.Shape) []byte {
	t.Helper()
	b, code := plan.Super(s)
	if code != api.OK || len(b) != 512 {
		t.Fatalf("Super(%v): %d bytes, %d", s, len(b), code)
	}
	return b
}
