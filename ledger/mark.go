package ledger

import (
	"annex/api"
	"annex/bits"
	"annex/journal"
)

const markSize = 8

// watermarks are those that one call has read, by client: the device is asked once for each.
type watermarks struct {
	tx     *journal.Tx
	layout api.Layout
	read   map[int]int
}

func (w watermarks) of(c int) (int, api.Errno) {
	if mark, ok := w.read[c]; ok {
		return mark, api.OK
	}
	mark, code := Mark(w.tx, w.layout, c)
	if code == api.OK {
		w.read[c] = mark
	}
	return mark, code
}

func markIn(block []byte, c int) (int, api.Errno) {
	r := bits.NewReader(markPlace(block, c))
	mark := r.U64(api.MaxNumber)
	if r.Close() != api.OK {
		return 0, api.ErrLedger
	}
	return mark, api.OK
}

func layMark(block []byte, c, mark int) { copy(markPlace(block, c), bits.Put64(nil, mark)) }

func markPlace(block []byte, c int) []byte {
	from := c * markSize
	to := from + markSize
	return block[from:to:to]
}

func isClient(l api.Layout, c int) bool { return c >= 0 && c < clients(l) }

// clients is bounded for a layout that Plan never gave: the block has watermarks for so many alone.
func clients(l api.Layout) int { return min(l.Shape.Clients, api.MaxClients) }

// read takes no transaction, which is what Begin answers where there is none, for one that is not open.
func read(t *journal.Tx, b int) ([]byte, api.Errno) {
	if t == nil {
		return nil, api.ErrEnded
	}
	return t.Read(b)
}
