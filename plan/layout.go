package plan

import "annex/api"

// The functions here are for shapes whose numbers are in their bounds: nothing that they work out overflows.

const (
	bootBlock    = 1
	firstJournal = 2
	blocksAReply = 3 // of the ledger
	inodesABlock = 4 // of the table
	dataAnInode  = 4 // beside the blocks of the quota's bytes: what files and directories may take in parts of blocks and in block numbers
)

func layOut(s api.Shape) api.Layout {
	l := api.Layout{
		Boot:       bootBlock,
		Journal:    firstJournal,
		JournalLen: s.Journal,
		LedgerLen:  1 + blocksAReply*s.Cache,
		BitsLen:    1,
		TableLen:   parts(s.Inodes, inodesABlock),
		DataLen:    s.Data,
		Shape:      s,
	}
	l.Ledger = l.Journal + l.JournalLen
	l.Bits = l.Ledger + l.LedgerLen
	l.Table = l.Bits + l.BitsLen
	l.Data = l.Table + l.TableLen
	l.Total = l.Data + l.DataLen
	return l
}

// parts counts the last one too, where it is not a whole one.
func parts(n, size int) int { return (n + size - 1) / size }

func leastData(s api.Shape) int {
	return parts(s.Quota, api.BlockSize) + dataAnInode*s.Inodes
}

// firstBlocks has the regions in their order: the region r at r - 1.
func firstBlocks(l api.Layout) [7]int {
	return [7]int{0, l.Boot, l.Journal, l.Ledger, l.Bits, l.Table, l.Data}
}
