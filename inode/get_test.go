package inode_test

import (
	"math"
	"testing"

	"annex/api"
)

// strangeIds are ids that no table has, whatever it holds.
var strangeIds = []int{
	math.MinInt, math.MinInt + 256, -1 << 40, -513, -512, -511, -257, -256, -255, -1, 0, 1, 2, 254, 255,
	(lastUse + 1) << 8, 1<<49 - 1, 1 << 49, 1 << 56, 1 << 62, 1<<62 + 256, math.MaxInt, math.MaxInt - 255,
}

// TestP9_2Ids: every id around those of the table.
func TestP9_2Ids(t *testing.T) {
	for _, n := range slotNumbers {
		l := layoutOf(t, n)
		w := make(told, n)
		for s := range w {
			switch uses := 1 + s%3; s % 4 {
			case 0:
				w[s] = place{uses: uses}
			default:
				w[s] = place{uses, true, sample(l, uses<<8|s, 1+s%2)}
			}
		}
		g := groundWith(t, l, w)
		for id := -3; id < 5*256; id++ {
			x, code := w.get(id)
			g.get(id, x, code)
		}
		for _, id := range strangeIds {
			g.get(id, api.Inode{}, api.ErrStale)
		}
		g.wrote("Get")
	}
}

// TestP9_2GreatGenerations: the whole of the generation counts, not a part of its bits.
func TestP9_2GreatGenerations(t *testing.T) {
	l := layoutOf(t, 6)
	for _, uses := range []int{1, 255, 256, 257, 1<<24 + 1, 1 << 32, 1<<32 + 1, lastUse - 1, lastUse} {
		w := make(told, 6)
		x := sample(l, uses<<8|5, 1)
		w[5] = place{uses, true, x}
		g := groundWith(t, l, w)
		g.get(x.Id, x, api.OK)
		for bit := range 55 {
			g.get(x.Id^1<<(8+bit), api.Inode{}, api.ErrStale)
		}
		g.get(x.Id-1, api.Inode{}, api.ErrStale)
		g.get(x.Id+1, api.Inode{}, api.ErrStale)
		g.get(x.Id-256, api.Inode{}, api.ErrStale)
		g.get(x.Id+256, api.Inode{}, api.ErrStale)
	}
}

// TestP9_2AnyTable: tables by chance, each inode told as it stands there.
func TestP9_2AnyTable(t *testing.T) {
	for seed := range int64(60) {
		l := layoutOf(t, slotNumbers[seed%13])
		w := filled(l, seed)
		g := groundWith(t, l, w)
		for s, p := range w {
			for _, uses := range []int{p.uses - 1, p.uses, p.uses + 1} {
				x, code := w.get(uses<<8 | s)
				g.get(uses<<8|s, x, code)
			}
		}
	}
}

// TestP9_2BehindTheLastSlot: what stands there is not looked at, be it a record that may be or not.
func TestP9_2BehindTheLastSlot(t *testing.T) {
	for _, n := range []int{2, 3, 5, 6, 7, 9} {
		l := layoutOf(t, n)
		for _, behind := range [][]byte{make([]byte, 128), noise(7, 128), place{1, true, sample(l, 256+n, 1)}.record()} {
			g := groundOf(t, n)
			for s := n; s < 4*l.TableLen; s++ {
				g.lay(s, behind)
			}
			g.commit()
			for s := n; s < 256; s++ {
				g.get(256+s, api.Inode{}, api.ErrStale)
				g.free(256+s, api.ErrStale)
				g.put(sample(l, 256+s, 1), api.ErrStale)
			}
			g.all(nil, api.OK)
			g.wrote("calls of slots that there are none of")
			for s := range n {
				g.new(1, api.Inode{Id: 256 + s, Kind: 1, Change: 2}, api.OK)
			}
			g.new(1, api.Inode{}, api.ErrInodes)
			for s := n; s < 4*l.TableLen; s++ {
				if got := g.table()[128*s : 128*s+128]; string(got) != string(behind) {
					t.Fatalf("%d slots: what stood behind them has changed", n)
				}
			}
		}
	}
}
