package journal

import (
	"maps"
	"slices"

	"annex/api"
)

// What a transaction has in the log beside its blocks: a descriptor and a commit.
const besides = 2

// at is the block that is so many places behind the journal's place.
func (j *Journal) at(behind int) int { return j.where.at(j.place + behind) }

// found is a journal as its head says.
func found(r region, w *work) *Journal {
	seq, place, ok := headOf(w.read(r.start), r.places())
	if !ok && w.err == nil {
		w.err = api.ErrHeadless
	}
	return &Journal{where: r, seq: seq, place: place, free: r.places(), away: map[int][]byte{}}
}

// takeUp takes what stands in the log, brings it home, and tells how many were taken. A place counts as free till it has been read.
func (j *Journal) takeUp(w *work) int {
	taken := 0
	for j.seq <= api.MaxNumber {
		blocks := j.next(w)
		if len(blocks) == 0 {
			break
		}
		j.pass(blocks)
		taken++
	}
	j.checkpoint(w)
	return taken
}

// next tells the blocks of the transaction at the journal's place; nothing, if there is none that is right and whole.
func (j *Journal) next(w *work) map[int][]byte {
	lines := linesOf(w.read(j.at(0)), j.seq)
	if len(lines) == 0 || len(lines)+besides > j.free || !j.where.mayBe(lines) {
		return nil
	}
	if !isCommit(w.read(j.at(len(lines)+1)), j.seq) {
		return nil
	}
	blocks := map[int][]byte{}
	for i, l := range lines {
		data, ok := shown(w.read(j.at(i+1)), l.flag)
		if !ok {
			return nil
		}
		blocks[l.block] = data
	}
	return blocks
}

// mayBe tells whether the blocks rise and are outside.
func (r region) mayBe(lines []line) bool {
	for i, l := range lines {
		if !r.outside(l.block) || i > 0 && l.block <= lines[i-1].block {
			return false
		}
	}
	return true
}

// commit leaves a journal that is of no more use, if it meets an error; so does checkpoint.
func (j *Journal) commit(blocks map[int][]byte, w *work) {
	if j.free < len(blocks)+besides {
		j.checkpoint(w)
	}
	var lines []line
	for _, b := range rising(blocks) {
		lines = append(lines, line{b, flagOf(blocks[b])})
	}
	w.write(j.at(0), descriptorBlock(j.seq, lines))
	for i, l := range lines {
		w.write(j.at(i+1), hidden(blocks[l.block], l.flag))
	}
	w.flush()
	w.write(j.at(len(lines)+1), commitBlock(j.seq))
	w.flush()
	j.pass(blocks)
}

// pass goes behind a transaction of the log.
func (j *Journal) pass(blocks map[int][]byte) {
	maps.Copy(j.away, blocks)
	j.seq++
	j.place = (j.place + len(blocks) + besides) % j.where.places()
	j.free -= len(blocks) + besides
}

func (j *Journal) checkpoint(w *work) {
	if len(j.away) == 0 {
		return
	}
	for _, b := range rising(j.away) {
		w.write(b, j.away[b])
	}
	w.flush()
	w.write(j.where.start, headBlock(j.seq, j.place))
	w.flush()
	j.away = map[int][]byte{}
	j.free = j.where.places()
}

func rising(blocks map[int][]byte) []int {
	list := make([]int, 0, len(blocks))
	for b := range blocks {
		list = append(list, b)
	}
	slices.Sort(list)
	return list
}

// power ends the journal, if the power is off.
func (j *Journal) power() api.Errno { return j.met(begun(j.where.device)) }

// met ends the journal, if a call has met an error of the device.
func (j *Journal) met(w *work) api.Errno {
	if w.err != nil {
		j.end()
	}
	return codeOf(w.err)
}

func (j *Journal) end() {
	if j.open != nil {
		j.open.close()
	}
	*j = Journal{ended: true}
}
