package journal

import (
	"cmp"
	"maps"
	"slices"

	"annex/api"
)

// Tx is a transaction.
type Tx struct {
	journal *Journal       // nil: it is not open any more
	written map[int][]byte // by block; its bytes are never changed
	saves   []savepoint    // their marks rise
	last    int            // the last mark that was given
}

type savepoint struct {
	mark int
	back func() // lets the transaction have what it had
}

// Read tells a block as the transaction sees it.
func (t *Tx) Read(b int) ([]byte, api.Errno) {
	j := t.journal
	if j == nil {
		return nil, api.ErrEnded
	}
	if !j.where.outside(b) {
		return nil, api.ErrPlace
	}
	w := begun(j.where.device)
	data := t.newest(b, w)
	if code := j.met(w); code != api.OK {
		return nil, code
	}
	return data, api.OK
}

// Write writes a block within the transaction.
func (t *Tx) Write(b int, data []byte) api.Errno {
	j := t.journal
	if j == nil {
		return api.ErrEnded
	}
	if !j.where.outside(b) {
		return api.ErrPlace
	}
	if len(data) != api.BlockSize {
		return api.ErrLength
	}
	if code := j.power(); code != api.OK {
		return code
	}
	if _, again := t.written[b]; !again && len(t.written) == api.MaxTx {
		return api.ErrTxBig
	}
	t.written[b] = copied(data)
	return api.OK
}

// Seq tells the transaction's number.
func (t *Tx) Seq() int {
	if t.journal == nil {
		return 0
	}
	return t.journal.seq
}

// Save makes a savepoint.
func (t *Tx) Save() (int, api.Errno) {
	if t.journal == nil {
		return 0, api.ErrEnded
	}
	if code := t.journal.power(); code != api.OK {
		return 0, code
	}
	had := maps.Clone(t.written)
	t.last++
	t.saves = append(t.saves, savepoint{t.last, func() { t.written = maps.Clone(had) }})
	return t.last, api.OK
}

// Back takes back what was written behind a savepoint.
func (t *Tx) Back(mark int) api.Errno {
	if t.journal == nil {
		return api.ErrEnded
	}
	if code := t.journal.power(); code != api.OK {
		return code
	}
	i, ok := slices.BinarySearchFunc(t.saves, mark, func(s savepoint, mark int) int {
		return cmp.Compare(s.mark, mark)
	})
	if !ok {
		return api.ErrMark
	}
	t.saves[i].back()
	t.saves = slices.Delete(t.saves, i+1, len(t.saves))
	return api.OK
}

// Blocks tells the blocks that the transaction has written.
func (t *Tx) Blocks() []int { return rising(t.written) }

// Commit makes the transaction last.
func (t *Tx) Commit() api.Errno {
	j, blocks := t.journal, t.written
	if j == nil {
		return api.ErrEnded
	}
	t.close()
	if code := j.power(); code != api.OK || len(blocks) == 0 {
		return code
	}
	if j.seq > api.MaxNumber {
		return api.ErrSeqs
	}
	w := begun(j.where.device)
	j.commit(blocks, w)
	return j.met(w)
}

// Drop ends the transaction without a trace.
func (t *Tx) Drop() {
	if t.journal != nil {
		t.close()
	}
}

// newest is new memory.
func (t *Tx) newest(b int, w *work) []byte {
	if data, ok := t.written[b]; ok {
		return copied(data)
	}
	if data, ok := t.journal.away[b]; ok {
		return copied(data)
	}
	return w.read(b)
}

// close leaves a transaction that keeps nothing alive, neither blocks nor the journal.
func (t *Tx) close() {
	t.journal.open = nil
	*t = Tx{}
}
