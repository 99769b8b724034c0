package fsck_test

import (
	"bytes"
	"fmt"
	"math/rand"
	"strings"
	"testing"

	"annex/api"
	"annex/device"
	"annex/fsck"
	"annex/journal"
)

// spoiler changes images by chance: mostly what the chapter judges, and to values near its bounds.
type spoiler struct {
	r *rand.Rand
	d *disk
}

func (s *spoiler) pick(list ...int) int { return list[s.r.Intn(len(list))] }

func (s *spoiler) number() int {
	first, end := s.d.l.Data, s.d.l.Data+s.d.l.DataLen
	return s.pick(0, 0, first, first+s.r.Intn(s.d.l.DataLen), first+s.r.Intn(8), first+s.r.Intn(8), end-1, end, first-1, s.r.Intn(1<<10))
}

func (s *spoiler) size() int {
	return s.pick(0, 1, 32*s.r.Intn(40), 32*s.r.Intn(300), 512*s.r.Intn(12), s.r.Intn(6000), 4096, 4097, 8192, 69632, 69633)
}

func (s *spoiler) id() int {
	slot := s.r.Intn(s.d.l.Shape.Inodes)
	return s.pick(256+slot, 256+slot, 256+slot, 512+slot, s.r.Intn(1<<11), 256, 1<<48+slot)
}

// record changes one field of a slot.
func (s *spoiler) record() {
	b := s.d.slot(s.r.Intn(s.d.l.Shape.Inodes))
	switch s.r.Intn(8) {
	case 0:
		put64(b, uint64(s.pick(0, 1, 1, 2, 3, 1<<40, 1<<40+1)))
	case 1:
		put32(b[8:], s.pick(0, 1, 1, 2, 2, 3))
	case 2:
		put32(b[12:], s.size())
	case 3:
		put64(b[16:], uint64(s.pick(0, 1, s.r.Intn(20), s.r.Intn(60), last, last+1)))
	case 4, 5:
		put32(b[24+4*s.r.Intn(9):], s.number())
	case 6:
		copy(b, s.d.slot(s.r.Intn(s.d.l.Shape.Inodes)))
	case 7:
		b[s.r.Intn(128)] ^= byte(1 << s.r.Intn(8))
	}
}

// fresh lays a new record, with blocks that have entries or numbers.
func (s *spoiler) fresh() {
	slot := s.r.Intn(s.d.l.Shape.Inodes)
	many := s.r.Intn(4)
	var list []entry
	for i := range many {
		list = append(list, entry{fmt.Sprint(string(rune('a'+s.r.Intn(3))), i), s.id()})
	}
	n := s.d.l.Data + s.r.Intn(s.d.l.DataLen)
	size := s.d.entries(n, list...)
	s.d.inode(s.pick(256, 256, 512)+slot, 2, size, s.r.Intn(10), n)
	if s.r.Intn(3) == 0 {
		s.d.inode(256+slot, 1, s.size(), s.r.Intn(10), n, 0, s.number(), 0, 0, 0, 0, 0, s.number())
	}
	if s.r.Intn(2) == 0 {
		s.d.bits(n)
	}
}

// data changes an entry, or a number, in a data block: mostly one of the first ones.
func (s *spoiler) data() {
	b := s.d.data(s.r.Intn(s.pick(3, 8, s.d.l.DataLen)))
	at := 32 * s.r.Intn(16)
	switch s.r.Intn(5) {
	case 0:
		put64(b[at:], uint64(s.id()))
	case 1:
		b[at+8+s.r.Intn(24)] ^= byte(1 << s.r.Intn(8))
	case 2:
		put32(b[4*s.r.Intn(128):], s.number())
	case 3:
		copy(b[at:at+32], b[32*s.r.Intn(16):])
	case 4:
		b[s.r.Intn(512)] = byte(s.r.Intn(256))
	}
}

func (s *spoiler) ledger() {
	cache := s.d.l.Shape.Cache
	b := s.d.kept(s.r.Intn(cache))
	switch s.r.Intn(7) {
	case 0:
		s.d.mark(s.r.Intn(8), uint64(s.pick(0, s.r.Intn(20), last, last+1)))
	case 1:
		put32(b, s.r.Intn(s.d.l.Shape.Clients+1))
	case 2:
		put64(b[8:], uint64(s.pick(0, 1, s.r.Intn(20), last, last+1)))
	case 3:
		put64(b[16:], uint64(s.pick(0, 1, s.r.Intn(20), s.r.Intn(80), last, last+1)))
	case 4:
		copy(b, s.d.kept(s.r.Intn(cache)))
	case 5:
		b[24+s.r.Intn(60)] ^= byte(1 << s.r.Intn(8))
	case 6:
		client, seq := s.r.Intn(s.d.l.Shape.Clients), 1+s.r.Intn(12)
		s.d.keep(s.r.Intn(cache), client, uint64(seq), uint64(1+s.r.Intn(12)), reply(s.d.t, client, seq, 1+s.r.Intn(4)))
	}
}

func (s *spoiler) once() {
	switch n := s.r.Intn(40); {
	case n < 10:
		s.record()
	case n < 15:
		s.fresh()
	case n < 22:
		s.data()
	case n < 30:
		s.ledger()
	case n < 35:
		s.d.block(s.d.l.Bits)[s.r.Intn(min(512, s.d.l.DataLen/8+2))] ^= byte(1 << s.r.Intn(8))
	case n < 37:
		s.d.epoch(uint64(s.pick(0, 1, 2, 3, last, last+1)))
	case n == 37:
		s.d.b[512+s.r.Intn(512)] ^= byte(1 << s.r.Intn(8))
	case n == 38:
		s.d.b[512*2+s.r.Intn(512*s.d.l.JournalLen)] ^= byte(1 << s.r.Intn(8))
	default:
		s.d.b[512+s.r.Intn(len(s.d.b)-512)] ^= byte(1 << s.r.Intn(8))
	}
}

// TestP23_2Any: images that were changed by chance, a little or much, against the second telling.
func TestP23_2Any(t *testing.T) {
	seen := map[string]int{}
	for seed := range int64(250) {
		r := rand.New(rand.NewSource(seed))
		s := &spoiler{r, served(t, shapes()[seed%4], seed, r.Intn(60))}
		if seed%3 == 0 {
			s.d.b = home(t, s.d.b)
		}
		for range 12 {
			image := s.d.copy()
			for range s.pick(1, 1, 2, 3, 8, 30) {
				s.once()
			}
			holds(t, fmt.Sprint("seed ", seed), s.d.b)
			list, _ := fsck.Check(s.d.b)
			for _, l := range list {
				seen[strings.Fields(l)[0]]++
			}
			if s.pick(0, 1) == 0 {
				s.d = image
			}
		}
	}
	for _, word := range []string{"boot", "record", "change", "root", "bent", "long", "shared", "free", "lost", "list", "dangling", "orphan", "twice", "apart", "quota", "mark", "ledger", "double", "kept", "era", "ahead", "stamp"} {
		if seen[word] == 0 {
			t.Errorf("no line began with %s", word)
		}
	}
}

// TestP23_2EachByte: each byte ahead of the data blocks and of the first of these, and each block behind, changed in one bit.
func TestP23_2EachByte(t *testing.T) {
	d := served(t, example, 4, 40)
	d.b = home(t, d.b)
	checks(t, "as it is", d.b, api.OK)
	for at := range (d.l.Data + 3) * 512 {
		if n := at / 512; n > 2 && n < d.l.Ledger || n == 0 {
			continue // the log is not looked at where nothing is taken
		}
		x := byte(1 << (at % 8))
		d.b[at] ^= x
		holds(t, fmt.Sprint("byte ", at), d.b)
		d.b[at] ^= x
	}
}

// TestP23_1AnyLog: logs that were changed by chance.
func TestP23_1AnyLog(t *testing.T) {
	taken := map[int]int{}
	for seed := range int64(150) {
		r := rand.New(rand.NewSource(seed))
		d := served(t, shapes()[seed%4], seed, 5+r.Intn(40))
		for range r.Intn(3) {
			d.block(1 + r.Intn(2))[r.Intn(30)] ^= byte(r.Intn(2))
		}
		for range r.Intn(4) {
			n := 3 + r.Intn(d.l.JournalLen-1)
			d.block(n)[r.Intn(40)] ^= byte(1 << r.Intn(8))
		}
		x, _ := device.Image(d.b)
		_, many, _ := journal.Open(x, 2, d.l.JournalLen)
		taken[many]++
		holds(t, fmt.Sprint("seed ", seed), d.b)
	}
	if len(taken) < 5 {
		t.Errorf("too few kinds of logs: %v", taken)
	}
}

// TestP0_1Any: bytes of any length, and images whose superblock and head are right and all else is noise.
func TestP0_1Any(t *testing.T) {
	r := rand.New(rand.NewSource(5))
	for range 200 {
		b := make([]byte, s512(r))
		r.Read(b)
		holds(t, "noise", b)
		d := diskOf(t, shapes()[r.Intn(4)])
		r.Read(d.b[512:])
		d.head(uint64(1 + r.Intn(100)))
		holds(t, "noise behind the head", d.b)
		if r.Intn(2) == 0 {
			clear(d.b[512*d.l.Ledger : 512*d.l.Bits])
		}
		for slot := range d.l.Shape.Inodes {
			d.inode(256+slot, 1+r.Intn(2), r.Intn(69632), r.Intn(100), d.l.Data+r.Intn(d.l.DataLen))
		}
		holds(t, "noise with records", d.b)
	}
}

func s512(r *rand.Rand) int {
	return []int{r.Intn(2000), 512 * (1 + r.Intn(60))}[r.Intn(2)]
}

// TestP23_8Any: behind journal.Open, Check and Tree are the same.
func TestP23_8Any(t *testing.T) {
	tried := 0
	for seed := range int64(200) {
		r := rand.New(rand.NewSource(seed))
		s := &spoiler{r, served(t, shapes()[seed%4], seed, r.Intn(60))}
		for range r.Intn(6) {
			s.once()
		}
		d, _ := device.Image(s.d.b)
		_, many, code := journal.Open(d, 2, s.d.l.JournalLen)
		if code != api.OK {
			continue
		}
		behind := d.Durable()
		_, again, _ := journal.Open(d, 2, s.d.l.JournalLen)
		if again > 0 || !bytes.Equal(behind[:512], s.d.b[:512]) {
			continue
		}
		is(t, fmt.Sprint("seed ", seed), answers(behind), answers(s.d.b))
		if many > 0 {
			tried++
		}
	}
	if tried < 50 {
		t.Errorf("only %d logs had something to take", tried)
	}
}
