package plan_test

import (
	"math/rand"
	"testing"

	"annex/api"
	"annex/plan"
)

// samePlan holds Plan against the chapter's words.
func samePlan(t *testing.T, s api.Shape) {
	t.Helper()
	want, code := planByWords(s)
	if l, got := plan.Plan(s); l != want || got != code {
		t.Errorf("Plan(%v) = %v, %d, want %v, %d", s, l, got, want, code)
	}
}

func TestP6_1Example(t *testing.T) {
	want := api.Layout{
		Boot: 1, Journal: 2, JournalLen: 27, Ledger: 29, LedgerLen: 25, Bits: 54, BitsLen: 1,
		Table: 55, TableLen: 4, Data: 59, DataLen: 80, Total: 139, Shape: small,
	}
	if l, code := plan.Plan(small); l != want || code != api.OK {
		t.Errorf("Plan = %v, %d, want %v", l, code, want)
	}
	for _, c := range []struct {
		name  string
		x     int
		total int
		code  api.Errno
	}{
		{"Data", 79, 0, api.ErrRoom},
		{"Data", 4018, 4077, api.OK},
		{"Data", 4037, 4096, api.OK},
		{"Data", 4038, 0, api.ErrRoom},
		{"Data", 4097, 0, api.ErrShape},
		{"Clients", 9, 0, api.ErrShape},
		{"Journal", 26, 0, api.ErrShape},
	} {
		for _, n := range theNumbers() {
			if n.name != c.name {
				continue
			}
			if l, code := plan.Plan(with(small, n, c.x)); l.Total != c.total || code != c.code {
				t.Errorf("Plan with %s %d: Total %d, %d, want %d, %d", c.name, c.x, l.Total, code, c.total, c.code)
			}
		}
	}
}

// TestP6_1EachBound: one number is out of its bounds, the others are not.
func TestP6_1EachBound(t *testing.T) {
	roomy := api.Shape{Clients: 1, Window: 1, Places: 1, Cache: 1, Inodes: 2, Quota: 0, Data: 2100, Journal: 27}
	for _, n := range theNumbers() {
		for _, x := range n.edges() {
			s := with(roomy, n, x)
			samePlan(t, s)
			_, code := plan.Plan(s)
			if outside := x < n.least || x > n.most; outside != (code == api.ErrShape) {
				t.Errorf("%s %d: %d", n.name, x, code)
			}
		}
	}
}

// TestP6_1EdgesTogether: two numbers at their edges at a time, in shapes of all kinds.
func TestP6_1EdgesTogether(t *testing.T) {
	for _, s := range fittings(6) {
		for _, n := range theNumbers() {
			for _, m := range theNumbers() {
				for _, x := range n.edges() {
					for _, y := range m.edges() {
						samePlan(t, with(with(s, n, x), m, y))
					}
				}
			}
		}
	}
}

// TestP6_1ShapeAheadOfRoom: a shape that does not fit, and has a number out of its bounds.
func TestP6_1ShapeAheadOfRoom(t *testing.T) {
	little, great := small, small
	little.Data, great.Data = 79, 4038
	for _, s := range []api.Shape{little, great} {
		if _, code := plan.Plan(s); code != api.ErrRoom {
			t.Fatalf("Plan(%v): %d", s, code)
		}
		for _, n := range theNumbers() {
			for _, x := range []int{n.least - 1, n.most + 1} {
				if _, code := plan.Plan(with(s, n, x)); code != api.ErrShape {
					t.Errorf("Data %d and %s %d: %d", s.Data, n.name, x, code)
				}
			}
		}
	}
}

// TestP6_1LeastData: a block less than is needed, and just as many.
func TestP6_1LeastData(t *testing.T) {
	for inodes := 2; inodes <= 256; inodes++ {
		for _, quota := range []int{0, 1, 511, 512, 513, 1023, 1024, 1025, 100000, 523775, 523776, 523777, 524287, 524288} {
			s := api.Shape{Clients: 1, Window: 1, Places: 1, Cache: 1, Inodes: inodes, Quota: quota, Journal: 27}
			s.Data = needByWords(s)
			samePlan(t, s)
			if l := planned(t, s); l.DataLen != s.Data {
				t.Errorf("Plan(%v): DataLen %d", s, l.DataLen)
			}
			s.Data--
			if _, code := plan.Plan(s); code != api.ErrRoom {
				t.Errorf("Plan(%v), a block too few: %d", s, code)
			}
		}
	}
}

// TestP6_1MostData: 4096 blocks in all, and one more.
func TestP6_1MostData(t *testing.T) {
	for _, s := range fittings(300) {
		_, total := regionsByWords(s)
		s.Data += 4096 - total
		if l := planned(t, s); l.Total != 4096 {
			t.Errorf("Plan(%v): Total %d", s, l.Total)
		}
		s.Data++
		if _, code := plan.Plan(s); code != api.ErrRoom {
			t.Errorf("Plan(%v), a block too many: %d", s, code)
		}
	}
}

func TestP6_1AsTheWordsSay(t *testing.T) {
	for _, s := range fittings(3000) {
		samePlan(t, s)
		if l := planned(t, s); l.Shape != s {
			t.Errorf("Plan(%v): Shape %v", s, l.Shape)
		}
	}
	chance := rand.New(rand.NewSource(61))
	for range 3000 {
		var s api.Shape
		for _, n := range theNumbers() {
			*n.of(&s) = n.least - 1 + chance.Intn(n.most-n.least+3)
		}
		samePlan(t, s)
	}
}
