package server_test

import (
	"bytes"
	"fmt"
	"math/rand"
	"slices"
	"testing"

	"annex/api"
	"annex/device"
	"annex/journal"
	"annex/msg"
	"annex/plan"
	"annex/server"
)

// blocksOf is what was committed last for the blocks from one region to another, of an image.
func blocksOf(t *testing.T, image []byte, from, to int) []byte {
	t.Helper()
	d := deviceOf(t, image)
	shape, code := plan.ReadSuper(image[:512])
	is(t, "ReadSuper", code, api.OK)
	l := layoutOf(t, shape)
	j, _, code := journal.Open(d, l.Journal, l.JournalLen)
	is(t, "the journal", code, api.OK)
	x := j.Begin()
	var all []byte
	for b := range l.Total {
		if region, _ := plan.Where(l, b); region >= from && region <= to {
			data, code := x.Read(b)
			is(t, "Read", code, api.OK)
			all = append(all, data...)
		}
	}
	return all
}

// treeOf is the bitmap, the table and the data blocks.
func treeOf(t *testing.T, image []byte) []byte { return blocksOf(t, image, 5, 7) }

// stateOf is the ledger and the tree.
func stateOf(t *testing.T, image []byte) []byte { return blocksOf(t, image, 4, 7) }

// play is what leads a server somewhere: datagrams, and Steps (nil).
type play struct {
	shape api.Shape
	moves [][]byte
}

// playOf is made by chance; its last move is a Step for which something waits.
func playOf(t *testing.T, shape api.Shape, seed int64, length int) play {
	t.Helper()
	c := newChance(t, shape, seed)
	p := play{shape: shape}
	s, _ := up(t, shape)
	for len(p.moves) < length || slices.Max(s.Waits()) == 0 {
		b := c.datagram()
		c.hear(s.Receive(b))
		p.moves = append(p.moves, b)
		if c.r.Intn(3) > 0 && len(p.moves) < length {
			c.hear(step(t, s))
			p.moves = append(p.moves, nil)
		}
	}
	return p
}

// led is a server that was led through a play, and its device.
func (p play) led(t *testing.T) (*server.Server, *device.Device) {
	t.Helper()
	s, d := up(t, p.shape)
	for _, b := range p.moves {
		if b == nil {
			step(t, s)
		} else {
			s.Receive(b)
		}
	}
	return s, d
}

// choices are choices among the writes that pend: all of them, if they are few, else none, all, all but one, one, and some by chance.
func choices(r *rand.Rand, many int) [][]bool {
	var list [][]bool
	if many <= 5 {
		for bits := range 1 << many {
			keep := make([]bool, many)
			for i := range keep {
				keep[i] = bits>>i&1 == 1
			}
			list = append(list, keep)
		}
		return list
	}
	for i := range many + 1 {
		keep, other := make([]bool, many), slices.Repeat([]bool{true}, many)
		if i < many {
			keep[i], other[i] = true, false
		}
		list = append(list, keep, other)
	}
	for range 12 {
		keep := make([]bool, many)
		for i := range keep {
			keep[i] = r.Intn(2) == 0
		}
		list = append(list, keep)
	}
	return list
}

// survived is what lasts of a device whose power has failed, by each choice.
func survived(t *testing.T, r *rand.Rand, d *device.Device) [][]byte {
	t.Helper()
	image, pending := d.Durable(), d.Pending()
	var list [][]byte
	for _, keep := range choices(r, len(pending)) {
		after := bytes.Clone(image)
		for i, p := range pending {
			if keep[i] {
				copy(after[512*p.Block:], p.Data)
			}
		}
		list = append(list, after)
	}
	return list
}

// tells is what a server tells of what lasts.
func tells(s *server.Server) string {
	size, inodes := s.Usage()
	return fmt.Sprint(s.Marks(), s.Kept(), size, inodes)
}

// TestP15_10Step: the power fails at any write or flush of a Step, and anything of what pends survives: the next boot finds all or nothing of the Step.
func TestP15_10Step(t *testing.T) {
	checkpoints := make([]bool, len(shapes())) // whether one came ahead of a transaction
	for i, shape := range shapes() {
		t.Run(fmt.Sprint(i), func(t *testing.T) {
			for seed := range int64(9) {
				p := playOf(t, shape, seed, 1+int(seed)*3)
				s, d := p.led(t)
				ahead, before := tells(s), stateOf(t, d.Durable())
				head := d.Durable()[1024:1536]
				step(t, s)
				checkpoints[i] = checkpoints[i] || !bytes.Equal(d.Durable()[1024:1536], head)
				behind, after := tells(s), stateOf(t, d.Durable())
				r := rand.New(rand.NewSource(seed))
				for k := 1; ; k++ {
					s, d := p.led(t)
					is(t, "Arm", d.Arm(k), api.OK)
					list, code := s.Step()
					if code == api.OK {
						is(t, "what pends", len(d.Pending()), 0)
						is(t, "behind it at once", bytes.Equal(stateOf(t, d.Durable()), after), true)
						break
					}
					is(t, "Step", code, api.ErrPower)
					none(t, "Step", list)
					for _, image := range survived(t, r, d) {
						now := stateOf(t, image)
						is(t, "the blocks", bytes.Equal(now, before) || bytes.Equal(now, after), true)
						next := openOn(t, deviceOf(t, image))
						is(t, "Epoch", next.Epoch(), 2)
						says := tells(next)
						is(t, "ahead of it or behind it", says == ahead && bytes.Equal(now, before) || says == behind && bytes.Equal(now, after), true)
					}
				}
			}
		})
	}
	is(t, "a checkpoint was among them", slices.Contains(checkpoints, true), true)
}

// TestP15_10Open: the power fails at any write or flush of a boot, once and once more.
func TestP15_10Open(t *testing.T) {
	for i, shape := range shapes() {
		t.Run(fmt.Sprint(i), func(t *testing.T) {
			t.Parallel()
			for seed := range int64(4) {
				p := playOf(t, shape, 50+seed, int(seed)*5)
				s, d := p.led(t)
				want, state := tells(s), stateOf(t, d.Durable())
				r := rand.New(rand.NewSource(seed))
				fails(t, r, d.Durable(), 2, func(image []byte, most int) {
					is(t, "the blocks", bytes.Equal(stateOf(t, image), state), true)
					d := deviceOf(t, image)
					next := openOn(t, d)
					is(t, "Epoch", next.Epoch() > 1 && next.Epoch() <= most, true)
					is(t, "what it tells", tells(next), want)
					again := openOn(t, d)
					is(t, "Epoch", again.Epoch(), next.Epoch()+1)
					is(t, "opened again", tells(again), want)
				})
			}
		})
	}
}

// fails lets the power fail in a boot wherever it can, and again in the boot behind that, as often as depth says; look gets what lasts, and the greatest epoch that the next boot may have.
func fails(t *testing.T, r *rand.Rand, image []byte, depth int, look func(image []byte, most int)) {
	t.Helper()
	look(image, 4-depth)
	if depth == 0 {
		return
	}
	for k := 1; ; k++ {
		d := deviceOf(t, image)
		is(t, "Arm", d.Arm(k), api.OK)
		s, code := server.Open(d)
		if code == api.OK {
			return
		}
		is(t, "Open", code, api.ErrPower)
		is(t, "a server", s == nil, true)
		all := survived(t, r, d)
		for range depth {
			fails(t, r, all[r.Intn(len(all))], depth-1, look)
		}
	}
}

// TestP15_10Epochs: no two boots that went well have one epoch, however many failed between.
func TestP15_10Epochs(t *testing.T) {
	for seed := range int64(40) {
		c := newChance(t, wide, seed)
		_, d := up(t, wide)
		epoch := 1
		for range 40 {
			d.Crash(c.survivors(len(d.Pending())))
			d.Arm(c.r.Intn(12))
			s, code := server.Open(d)
			if code != api.OK {
				is(t, "Open", code, api.ErrPower)
				continue
			}
			is(t, "a higher epoch", s.Epoch() > epoch, true)
			epoch = s.Epoch()
			s.Receive(datagram(t, lookup(from(0, 1+epoch, epoch, 0), "/")))
			s.Step()
		}
	}
}

// TestP15_8NothingIsWritten: Receive and the looks write nothing and flush nothing, whatever comes.
func TestP15_8NothingIsWritten(t *testing.T) {
	for i, shape := range shapes() {
		c := newChance(t, shape, int64(i))
		s, d := up(t, shape)
		for range 150 {
			image := d.Durable()
			is(t, "Arm", d.Arm(1), api.OK)
			c.hear(s.Receive(c.datagram()))
			s.Up()
			s.Shape()
			s.Epoch()
			s.Waits()
			s.Marks()
			s.Kept()
			s.Usage()
			is(t, "the power", d.Power(), true)
			is(t, "what pends", len(d.Pending()), 0)
			is(t, "what lasts", bytes.Equal(d.Durable(), image), true)
			is(t, "Arm", d.Arm(0), api.OK)
			if c.r.Intn(2) == 0 {
				c.hear(step(t, s))
			}
		}
	}
}

// executed tells whether a datagram is the reply to a request that was done.
func executed(t *testing.T, b []byte) (api.Reply, bool) {
	t.Helper()
	p, code := msg.DecodeReply(b)
	is(t, "DecodeReply", code, api.OK)
	return p, p.Status != api.ErrBusy && p.Status != api.ErrEpoch
}

// TestP15_8OneTransaction: a Step is one transaction that lasts when its reply goes out, or changes nothing at all; whatever reply to a request that was done goes out, a boot at that moment would know it.
func TestP15_8OneTransaction(t *testing.T) {
	for i, shape := range shapes() {
		t.Run(fmt.Sprint(i), func(t *testing.T) {
			t.Parallel()
			c := newChance(t, shape, 70+int64(i))
			s, d := up(t, shape)
			stamp := 2 // Format's and the boot's
			for range 120 {
				for _, p := range s.Receive(c.datagram()) {
					if reply, ok := executed(t, p.Data); ok {
						known(t, d, reply, p.Data)
					}
				}
				before := d.Durable()
				list := step(t, s)
				c.hear(list)
				if len(list) > 0 {
					if reply, ok := executed(t, list[0].Data); ok {
						stamp++
						is(t, "its stamp", known(t, d, reply, list[0].Data), stamp)
						continue
					}
				}
				is(t, "what lasts", bytes.Equal(d.Durable(), before), true)
				is(t, "what pends", len(d.Pending()), 0)
			}
			is(t, "requests were done", stamp > 5, true)
		})
	}
}

// known: a boot behind a crash of which nothing survives has the reply. Its stamp.
func known(t *testing.T, d *device.Device, p api.Reply, b []byte) int {
	t.Helper()
	s := openOn(t, deviceOf(t, d.Durable()))
	for _, k := range s.Kept() {
		if k.Client == p.Client && k.Seq == p.Seq {
			is(t, "the kept datagram", bytes.Equal(k.Data, b), true)
			return k.Stamp
		}
	}
	t.Fatalf("a reply went out that is not kept: %+v", p)
	return 0
}
