package inode_test

import (
	"bytes"
	"math"
	"testing"

	"annex/api"
)

// notKinds are numbers that are no kind; some would be one if they were cut to fewer bits.
var notKinds = []int{math.MinInt, -1 << 32, -2, -1, 0, 3, 4, 256 + 1, 1<<32 + 1, 1<<32 + 2, math.MaxInt}

// TestP9_1AllInOrder: slot by slot, and then none is left.
func TestP9_1AllInOrder(t *testing.T) {
	for _, n := range slotNumbers {
		g := groundOf(t, n)
		for s := range n {
			if s%80 == 79 { // a transaction has room for 24 blocks: 96 slots
				g.commit()
			}
			g.new(1+s%2, api.Inode{Id: 256 + s, Kind: 1 + s%2, Change: g.x.Seq()}, api.OK)
		}
		g.new(1, api.Inode{}, api.ErrInodes)
		g.new(2, api.Inode{}, api.ErrInodes)
	}
}

// TestP9_1Kinds: ErrArg of all but a file and a directory, and nothing is written.
func TestP9_1Kinds(t *testing.T) {
	g := groundOf(t, 6)
	for _, kind := range notKinds {
		g.new(kind, api.Inode{}, api.ErrArg)
	}
	g.wrote("New of no kind")
	g.new(1, api.Inode{Id: 256, Kind: 1, Change: 1}, api.OK)
	g.new(2, api.Inode{Id: 257, Kind: 2, Change: 1}, api.OK)
}

// TestP9_1Change: the number of the transaction.
func TestP9_1Change(t *testing.T) {
	g := groundOf(t, 30)
	for s := range 30 {
		seq := 1 + 3*s
		g.upTo(seq)
		x := api.Inode{Id: 256 + s, Kind: 1, Change: seq}
		g.new(1, x, api.OK)
		g.get(x.Id, x, api.OK)
		g.commit()
		g.get(x.Id, x, api.OK)
	}
}

// TestP9_1LowestThatMayBe: each pair of slots that are free and may be taken; the others are in use or used up.
func TestP9_1LowestThatMayBe(t *testing.T) {
	for _, n := range []int{2, 6, 9} {
		l := layoutOf(t, n)
		for low := range n {
			for high := low + 1; high < n; high++ {
				for _, uses := range []int{0, 1, 7, 255, 256, 1 << 32, lastUse - 2, lastUse - 1} {
					w := make(told, n)
					for s := range w {
						w[s] = place{uses: lastUse}
						if s%3 == 0 {
							w[s] = place{9, true, sample(l, 9<<8|s, 1)}
						}
					}
					w[low], w[high] = place{uses: uses}, place{uses: 5}
					g := groundWith(t, l, w)
					g.new(2, api.Inode{Id: (uses+1)<<8 | low, Kind: 2, Change: 1}, api.OK)
					g.new(1, api.Inode{Id: 6<<8 | high, Kind: 1, Change: 1}, api.OK)
					g.new(1, api.Inode{}, api.ErrInodes)
				}
			}
		}
	}
}

// TestP9_1Written: what is written is the answer, over whatever the slot was used for before, and nothing else changes.
func TestP9_1Written(t *testing.T) {
	for seed := range int64(60) {
		l := layoutOf(t, slotNumbers[seed%11])
		w := filled(l, seed)
		g := groundWith(t, l, w)
		was := g.table()
		for range l.Shape.Inodes + 1 {
			kind := 1 + int(seed)%2
			x, code := w.new(kind, 1)
			g.new(kind, x, code)
			if !bytes.Equal(g.table(), w.laid(was)) {
				t.Fatalf("the table is not what New wrote")
			}
		}
	}
}

// TestP9_1ReadFromTheFirstOn: a record that may not be is met ahead of the slot that is taken, and not looked at behind it.
func TestP9_1ReadFromTheFirstOn(t *testing.T) {
	bad := make([]byte, 128)
	bad[127] = 1
	const n = 10
	for taken := range n {
		for at := range n {
			if at == taken {
				continue
			}
			l := layoutOf(t, n)
			w := make(told, n)
			for s := range taken {
				w[s] = place{1, true, sample(l, 256+s, 2)}
			}
			g := groundWith(t, l, w)
			g.lay(at, bad)
			if at < taken {
				g.new(1, api.Inode{}, api.ErrRecord)
				continue
			}
			g.new(1, api.Inode{Id: 256 + taken, Kind: 1, Change: 1}, api.OK)
			if got := g.table()[128*at : 128*at+128]; !bytes.Equal(got, bad) {
				t.Fatalf("New of the slot %d has mended the slot %d", taken, at)
			}
		}
	}
}

// TestP9_1NoneIsLeft: all in use or used up; nothing is written.
func TestP9_1NoneIsLeft(t *testing.T) {
	for _, n := range slotNumbers {
		l := layoutOf(t, n)
		for every := 1; every <= 3; every++ { // one of so many is used up
			w := make(told, n)
			for s := range w {
				w[s] = place{uses: lastUse}
				if s%every > 0 {
					w[s] = place{4, true, sample(l, 4<<8|s, 1)}
				}
			}
			g := groundWith(t, l, w)
			was := g.table()
			g.new(1, api.Inode{}, api.ErrInodes)
			g.wrote("New without a slot")
			if !bytes.Equal(g.table(), was) {
				t.Fatal("New without a slot has changed the table")
			}
		}
	}
}
