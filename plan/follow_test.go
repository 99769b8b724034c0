package plan_test

import (
	"bytes"
	"math/rand"
	"testing"

	"annex/api"
	"annex/plan"
)

func TestP6_6ReadBack(t *testing.T) {
	for _, s := range fittings(3000) {
		if got, code := plan.ReadSuper(written(t, s)); got != s || code != api.OK {
			t.Errorf("ReadSuper(Super(%v)) = %v, %d", s, got, code)
		}
	}
}

// TestP6_6WrittenAgain: blocks laid by hand; those that are taken are written so again.
func TestP6_6WrittenAgain(t *testing.T) {
	chance := rand.New(rand.NewSource(66))
	taken := 0
	for _, s := range fittings(3000) {
		b := blockOf(s)
		for range chance.Intn(3) {
			b[4+chance.Intn(32)] ^= 1 << chance.Intn(8)
		}
		resum(b)
		got, code := plan.ReadSuper(b)
		if code != api.OK {
			continue
		}
		taken++
		if again := written(t, got); !bytes.Equal(again, b) {
			t.Errorf("Super(ReadSuper(%x)) = %x", b[:48], again[:48])
		}
	}
	if taken < 1000 {
		t.Errorf("only %d blocks were taken", taken)
	}
}

// TestP6_6OneByteChanged: every byte, to every other one.
func TestP6_6OneByteChanged(t *testing.T) {
	for _, s := range fittings(6) {
		b := written(t, s)
		for at := range b {
			for by := 1; by < 256; by++ {
				b[at] ^= byte(by)
				if got, code := plan.ReadSuper(b); code == api.OK || got != (api.Shape{}) {
					t.Errorf("with the byte %d changed by %x: %v, %d", at, by, got, code)
				}
				b[at] ^= byte(by)
			}
		}
	}
}

// TestP6_6RegionsCover: gone through in order, the blocks fill the regions in order, each one whole.
func TestP6_6RegionsCover(t *testing.T) {
	for _, s := range fittings(100) {
		l := planned(t, s)
		b := 0
		for i, blocks := range []int{1, 1, l.JournalLen, l.LedgerLen, l.BitsLen, l.TableLen, l.DataLen} {
			for place := range blocks {
				whereIs(t, "in order", l, b, i+1, place)
				b++
			}
		}
		if b != l.Total {
			t.Errorf("the regions of %v have %d blocks, Total is %d", s, b, l.Total)
		}
	}
}

// mostBlocks is the most that the quotas admit: every split of the slots into files and directories (the root is one), all bytes and all entries where they take the most blocks.
func mostBlocks(inodes, quota int) int {
	most := 0
	for dirs := 1; dirs <= inodes; dirs++ {
		blocks := inodes // for block numbers
		if files := inodes - dirs; files > 0 {
			blocks += quota/512 + files
		}
		entries := inodes - 1
		if alone := min(dirs, entries); alone > 0 {
			blocks += alone + (entries-alone)/16
		}
		most = max(most, blocks)
	}
	return most
}

// TestP6_7AllHasRoom: no shape that Plan takes has less data blocks than its quotas admit.
func TestP6_7AllHasRoom(t *testing.T) {
	for inodes := 2; inodes <= 256; inodes++ {
		for _, quota := range []int{0, 1, 511, 512, 513, 5000, 65536, 524287, 524288} {
			most := mostBlocks(inodes, quota)
			s := api.Shape{Clients: 1, Window: 1, Places: 1, Cache: 1, Inodes: inodes, Quota: quota, Journal: 27}
			for s.Data = 1; s.Data < most; s.Data++ {
				if _, code := plan.Plan(s); code == api.OK {
					t.Fatalf("Plan takes %v; the quotas admit %d blocks", s, most)
				}
			}
		}
	}
}
