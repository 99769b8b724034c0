package dir_test

import (
	"fmt"
	"math/rand"
	"testing"

	"annex/api"
)

// TestP11_3AnyImage: directories made by hand, by chance: contents that may be and such that may not, numbers that stand twice or are bent, blocks that are not in use, transactions that are nearly full. All four calls against the second telling.
func TestP11_3AnyImage(t *testing.T) {
	for seed := range int64(300) {
		t.Run(fmt.Sprint(seed), func(t *testing.T) {
			t.Parallel()
			a := anyImage(t, rand.New(rand.NewSource(seed)))
			for range 25 {
				a.calls(a.inode())
			}
		})
	}
}

// chance is a ground, and how its directories are thrown.
type chance struct {
	*ground
	r      *rand.Rand
	spoils int // of a thousand entries
}

// anyImage has entries in all data blocks.
func anyImage(t *testing.T, r *rand.Rand) *chance {
	a := &chance{groundOf(t, []int{16, 24, 60}[r.Intn(3)]), r, r.Intn(3) * r.Intn(20)}
	for i := range a.l.DataLen {
		a.lay(a.l.Data+i, a.block(i))
		if i%20 == 19 {
			a.commit()
		}
	}
	a.commit()
	bitmap, _ := a.x.Read(a.l.Bits)
	rare := r.Intn(20)
	for i := range a.l.DataLen {
		if r.Intn(20) >= rare {
			bitmap[i/8] |= 1 << (i % 8)
		}
	}
	a.lay(a.l.Bits, bitmap)
	if r.Intn(3) == 0 {
		a.commit()
		a.fillAny(r.Intn(25))
	}
	return a
}

// fillAny lets the transaction write blocks as they are.
func (a *chance) fillAny(many int) {
	a.t.Helper()
	for _, i := range a.r.Perm(a.l.DataLen)[:min(many, a.l.DataLen)] {
		b, _ := a.x.Read(a.l.Data + i)
		a.lay(a.l.Data+i, b)
	}
}

// block has names of its own, most times.
func (a *chance) block(i int) []byte {
	var b []byte
	for k := range 16 {
		e := bytesOf(fmt.Sprint(i, "-", k), uint64(1+a.r.Int63n(1<<49-1)))
		if a.r.Intn(1000) < a.spoils {
			switch a.r.Intn(4) {
			case 0:
				e = bytesOf("7-7", 7)
			case 1:
				e[a.r.Intn(32)] ^= 1 << a.r.Intn(8)
			case 2:
				e = make([]byte, 32)
			default:
				e = noise(a.r.Int63(), 32)
			}
		}
		b = append(b, e...)
	}
	return b
}

// inode is one whose pieces all have blocks, most times each its own.
func (a *chance) inode() api.Inode {
	x := []api.Inode{first, second, {Id: 5<<8 | 3, Kind: 2}}[a.r.Intn(20)/9]
	order := a.r.Perm(a.l.DataLen)
	x.Size = 32 * []int{a.r.Intn(129), a.r.Intn(20), a.r.Intn(9) * 16, a.r.Intn(260)}[a.r.Intn(4)]
	for i := range x.Direct {
		if 512*i < x.Size || a.r.Intn(30) == 0 {
			x.Direct[i] = a.l.Data + order[i]
		}
	}
	if x.Size > 4096 {
		x.Indirect = a.numbers(order)
	}
	switch a.r.Intn(40) {
	case 0:
		x.Direct[a.r.Intn(8)] = a.r.Intn(a.l.Total + 9)
	case 1:
		x.Size += a.r.Intn(64) - 32
	case 2:
		x.Direct[a.r.Intn(8)] = x.Direct[a.r.Intn(8)]
	case 3:
		x.Kind = a.r.Intn(4)
	}
	return x
}

// numbers lays an indirect block for eight pieces, if the transaction has room for it.
func (a *chance) numbers(order []int) int {
	a.t.Helper()
	if len(a.x.Blocks()) > 20 || len(order) < 17 {
		return a.l.Data + order[8]
	}
	b := make([]byte, 512)
	for i := range 8 {
		n := a.l.Data + order[i+9]
		copy(b[4*i:], []byte{0, 0, byte(n >> 8), byte(n)})
	}
	a.lay(a.l.Data+order[8], b)
	return a.l.Data + order[8]
}

// name is one that stands in the contents, most times.
func (a *chance) name(x api.Inode) string {
	if list, code := a.list(x); code == api.OK && len(list) > 0 && a.r.Intn(4) > 0 {
		return list[a.r.Intn(len(list))].Name
	}
	return []string{"new", "7-7", "", "a/b", "0-0"}[a.r.Intn(5)]
}

func (a *chance) calls(x api.Inode) {
	a.t.Helper()
	a.find(x, a.name(x))
	for range 4 {
		var y api.Inode
		var code api.Errno
		if a.r.Intn(2) == 0 {
			y, code = a.add(x, []string{fmt.Sprint("new", a.r.Intn(9)), a.name(x)}[a.r.Intn(4)/3], a.r.Intn(1<<49))
		} else {
			y, _, code = a.remove(x, a.name(x))
		}
		if code == api.OK {
			x = y
		}
	}
	a.find(x, a.name(x))
	if a.r.Intn(2) == 0 {
		a.drop()
	}
}
