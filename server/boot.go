package server

import (
	"bytes"

	"annex/api"
	"annex/bits"
	"annex/device"
	"annex/journal"
	"annex/ledger"
	"annex/plan"
	"annex/queue"
	"annex/tree"
)

// What a boot block begins with: four zeros and the epoch stand behind it.
const bootMark = "ANXB"

const (
	epochFrom = len(bootMark) + 4
	epochTo   = epochFrom + 8
)

func bootBlock(epoch int) []byte {
	b := bits.Put32([]byte(bootMark), 0)
	b = bits.Put64(b, epoch)
	out := make([]byte, api.BlockSize)
	copy(out, b)
	return out
}

// epochIn holds the block against the one of its epoch: so each byte beside the epoch is judged. It is for whole blocks.
func epochIn(block []byte) (int, bool) {
	r := bits.NewReader(block[epochFrom:epochTo])
	epoch := r.U64(api.MaxNumber)
	return epoch, r.Close() == api.OK && bytes.Equal(block, bootBlock(epoch))
}

// formatted is for a device of its own: no power fails there.
func formatted(s api.Shape) []byte {
	l := sure(plan.Plan(s))
	d := device.New(l.Total)
	must(d.Write(0, sure(plan.Super(s))))
	must(d.Write(l.Boot, bootBlock(0)))
	must(journal.Format(d, l.Journal, l.JournalLen))
	must(d.Flush())
	j := opened(d, l)
	t := begun(j)
	must(ledger.Format(t, l))
	must(tree.Format(t, l))
	must(t.Commit())
	must(j.Check())
	return d.Durable()
}

// booted takes the shape ahead of the journal: what that brings home may be another block 0.
func booted(d *device.Device) *Server {
	shape := sure(plan.ReadSuper(sure(d.Read(0))))
	l := sure(plan.Plan(shape))
	demand(d.Size() == l.Total, api.ErrRoom)
	j := opened(d, l)
	return &Server{
		layout:  l,
		epoch:   nextEpoch(j, l),
		journal: j,
		queue:   queue.New[api.Request](shape.Clients, shape.Places),
	}
}

// nextEpoch is committed when it is told: no other boot will have it.
func nextEpoch(j *journal.Journal, l api.Layout) int {
	t := begun(j)
	epoch, ok := epochIn(sure(t.Read(l.Boot)))
	demand(ok, api.ErrBoot)
	demand(epoch < api.MaxNumber, api.ErrEpochs)
	epoch++
	must(t.Write(l.Boot, bootBlock(epoch)))
	must(t.Commit())
	return epoch
}

func opened(d *device.Device, l api.Layout) *journal.Journal {
	j, _, code := journal.Open(d, l.Journal, l.JournalLen)
	must(code)
	return j
}
