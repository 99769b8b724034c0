package file_test

import (
	"fmt"
	"math/rand"
	"testing"

	"annex/api"
)

// TestP10_2AnyImage: images and inodes made by hand, by chance: numbers that stand twice, that are bent, blocks that are not in use, transactions that are nearly full. All four calls against the second telling.
func TestP10_2AnyImage(t *testing.T) {
	for seed := range int64(300) {
		t.Run(fmt.Sprint(seed), func(t *testing.T) {
			t.Parallel()
			r := rand.New(rand.NewSource(seed))
			a := anyImage(t, r)
			for range 40 {
				a.calls(a.inode())
			}
		})
	}
}

// chance is a ground, and how its inodes are thrown.
type chance struct {
	*ground
	r     *rand.Rand
	apart bool  // no number stands twice
	left  []int // then: the blocks that were not thrown yet
	holes int   // of ten pieces
	bent  int   // of a thousand numbers
}

func anyImage(t *testing.T, r *rand.Rand) *chance {
	data := []int{12, 20, 60, 160}[r.Intn(4)]
	a := &chance{ground: groundOf(t, data), r: r, apart: r.Intn(3) > 0, holes: r.Intn(11), bent: r.Intn(3) * r.Intn(8)}
	rare := r.Intn(20)
	for i := range data {
		if r.Intn(20) >= rare {
			a.use(a.l.Data + i)
		}
	}
	if r.Intn(2) == 0 {
		a.commit()
		a.fill(r.Intn(25))
	}
	return a
}

// fill lets the transaction write blocks that no call of this package does.
func (g *ground) fill(many int) {
	g.t.Helper()
	others := []int{0, g.l.Boot}
	for b := g.l.Ledger; b < g.l.Bits; b++ {
		others = append(others, b)
	}
	for b := g.l.Data + g.l.DataLen - 1; len(others) < 24; b-- {
		others = append(others, b)
	}
	for _, b := range others[:many] {
		data := g.w.b[b]
		g.lay(b, data[:])
	}
}

func (a *chance) number() int {
	switch {
	case a.r.Intn(10) < a.holes:
		return 0
	case a.r.Intn(1000) < a.bent:
		return 1 + a.r.Intn(a.l.Total+9)
	case !a.apart:
		return a.l.Data + a.r.Intn(a.l.DataLen)
	case len(a.left) == 0:
		return 0
	}
	b := a.left[0]
	a.left = a.left[1:]
	return a.l.Data + b
}

// inode is one whose nine numbers are not bent, most times; its indirect block is laid, if there is room in the transaction.
func (a *chance) inode() api.Inode {
	a.left = a.r.Perm(a.l.DataLen)
	x := []api.Inode{first, second, second, {Id: 5<<8 | 2, Kind: 1}}[a.r.Intn(20)/6]
	x.Size = []int{a.r.Intn(69633), edges[a.r.Intn(len(edges))], a.r.Intn(6000)}[a.r.Intn(3)]
	x.Indirect = a.number()
	for i := range x.Direct {
		x.Direct[i] = a.number()
	}
	if a.r.Intn(9) > 0 && a.w.isData(x.Indirect) && (len(a.w.wrote) < 24 || a.w.wrote[x.Indirect]) {
		numbers := map[int]int{}
		for p := 8; p < 136; p++ {
			numbers[p] = a.number()
		}
		a.layNumbers(x.Indirect, numbers)
	}
	return x
}

func (a *chance) calls(x api.Inode) {
	a.t.Helper()
	off := []int{a.r.Intn(69700), edges[a.r.Intn(len(edges))], a.r.Intn(6000), 3500 + a.r.Intn(700)}[a.r.Intn(4)]
	n := []int{a.r.Intn(1025), 1 + a.r.Intn(3), 512 * a.r.Intn(8), a.r.Intn(6000)}[a.r.Intn(4)]
	a.blocks(x)
	a.read(x, off, n)
	a.read(x, 0, 70000)
	switch a.r.Intn(5) {
	case 0, 1:
		a.write(x, off, noise(int64(n), n))
	case 2:
		a.cut(x, a.r.Intn(69633)%(max(0, x.Size)+1))
	case 3:
		a.cut(x, off)
	case 4:
		if y, code := a.write(x, off, noise(int64(n), n)); code == api.OK {
			a.cut(y, a.r.Intn(y.Size+1))
		}
	}
}
