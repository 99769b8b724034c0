package journal_test

import (
	"bytes"
	"fmt"
	"math/rand"
	"testing"

	"annex/api"
	"annex/device"
	"annex/journal"
)

// life is a device with a journal in it, and what each block outside must hold: what the transactions gave it that were committed.
type life struct {
	t           *testing.T
	d           *device.Device
	start, size int
	holds       [][]byte
	seq         int // the next one
}

func born(t *testing.T, blocks, start, size int) *life {
	t.Helper()
	l := &life{t: t, start: start, size: size, seq: 1}
	l.d, _ = device.Image(noise(blocks))
	for b := range blocks {
		l.holds = append(l.holds, noise(blocks)[b*512:(b+1)*512])
	}
	if code := journal.Format(l.d, start, size); code != api.OK {
		t.Fatalf("Format: %d", code)
	}
	return l
}

func (l *life) inside(b int) bool { return l.start <= b && b < l.start+l.size }

func (l *life) committed(puts []put) {
	for _, p := range puts {
		l.holds[p.block] = p.data
	}
	l.seq++
}

// tried commits a transaction of these blocks. If that meets ErrPower, its commit's write may pend.
func (l *life) tried(j *journal.Journal, puts []put) api.Errno {
	l.t.Helper()
	x := j.Begin()
	if x == nil {
		l.t.Fatal("Begin is nil")
	}
	for _, p := range puts {
		if code := x.Write(p.block, p.data); code != api.OK {
			l.t.Fatalf("Write(%d): %d", p.block, code)
		}
	}
	code := x.Commit()
	if code == api.OK {
		l.committed(puts)
	}
	return code
}

// copied is another life like this one, behind a crash of the device with these survivors; under is the transaction whose Commit met ErrPower.
func (l *life) copied(lasting []byte, pending []api.Pending, keep []bool, under []put) *life {
	c := *l
	c.holds = append([][]byte{}, l.holds...)
	c.d, _ = device.Image(lasting)
	for _, p := range pending {
		c.d.Write(p.Block, p.Data)
	}
	c.d.Crash(keep)
	for i, p := range pending {
		if under != nil && keep[i] && l.inside(p.Block) && bytes.Equal(p.Data, commitByWords(l.seq)) {
			c.committed(under)
		}
	}
	return &c
}

// sound opens the journal and looks at each block, through a transaction and on the device; and opens it once more, which finds nothing to do.
func (l *life) sound(what string) *journal.Journal {
	l.t.Helper()
	var j *journal.Journal
	for again := range 2 {
		ahead := l.d.Durable()
		var taken int
		var code api.Errno
		if again == 1 {
			l.d.Arm(1)
		}
		j, taken, code = journal.Open(l.d, l.start, l.size)
		if code != api.OK || again == 1 && taken != 0 {
			l.t.Fatalf("%s: Open (%d): taken %d, %d", what, again, taken, code)
		}
		if taken == 0 && !bytes.Equal(ahead, l.d.Durable()) || len(l.d.Pending()) > 0 {
			l.t.Fatalf("%s: Open took %d and left another device", what, taken)
		}
		l.look(what, j)
	}
	l.d.Arm(0)
	if seq, free, away := j.State(); seq != l.seq || free != l.size-1 || away != 0 {
		l.t.Fatalf("%s: State: %d, %d, %d, want seq %d", what, seq, free, away, l.seq)
	}
	return j
}

func (l *life) look(what string, j *journal.Journal) {
	l.t.Helper()
	x := j.Begin()
	defer x.Drop()
	lasting := l.d.Durable()
	for b := range l.holds {
		if l.inside(b) {
			continue
		}
		if got, code := x.Read(b); code != api.OK || !bytes.Equal(got, l.holds[b]) {
			l.t.Fatalf("%s: Read(%d): %s, %d, want %s", what, b, short(got), code, short(l.holds[b]))
		}
		if got := lasting[b*512 : (b+1)*512]; !bytes.Equal(got, l.holds[b]) {
			l.t.Fatalf("%s: block %d lasts as %s, want %s", what, b, short(got), short(l.holds[b]))
		}
	}
}

// survivors are all lists of so many, if that is few; else some.
func survivors(r *rand.Rand, n, few int) [][]bool {
	var lists [][]bool
	if n <= few {
		for mask := range 1 << n {
			keep := make([]bool, n)
			for i := range keep {
				keep[i] = mask>>i&1 == 1
			}
			lists = append(lists, keep)
		}
		return lists
	}
	for i := range 8 {
		keep := make([]bool, n)
		for k := range keep {
			keep[k] = i == 0 || i > 1 && r.Intn(2) == 0
		}
		lists = append(lists, keep)
	}
	return lists
}

// crashesOfOpen lets the power fail at operations of an Open, and opens behind that.
func (l *life) crashesOfOpen(r *rand.Rand, what string, few, each int) {
	l.t.Helper()
	image := l.d.Durable()
	for k := 1 + r.Intn(each); ; k += each {
		d, _ := device.Image(image)
		d.Arm(k)
		if _, _, code := journal.Open(d, l.start, l.size); code == api.OK {
			return
		} else if code != api.ErrPower {
			l.t.Fatalf("%s: Open: %d", what, code)
		}
		pending := d.Pending()
		for _, keep := range survivors(r, len(pending), few) {
			l.copied(d.Durable(), pending, keep, nil).sound(fmt.Sprintf("%s, Open with Arm(%d), Crash(%v)", what, k, keep))
		}
	}
}

// story is transactions one behind the other; with nothing in its place a Check.
func story(t *testing.T, l *life, txs [][]put) (under []put, ended bool) {
	t.Helper()
	j, _, code := journal.Open(l.d, l.start, l.size)
	if code != api.OK {
		return nil, true
	}
	for _, puts := range txs {
		if puts == nil {
			if j.Check() != api.OK {
				return nil, true
			}
			continue
		}
		if l.tried(j, puts) != api.OK {
			return puts, true
		}
	}
	return nil, false
}

func puts(x byte, blocks ...int) []put {
	var list []put
	for i, b := range blocks {
		list = append(list, put{b, full(x + byte(i))})
	}
	return list
}

// everyCrash lets the power fail at each operation of a story, with each part of what pends surviving; and again at some or all operations of the Open behind that.
func everyCrash(t *testing.T, blocks, start, size, few, each int, txs [][]put) {
	t.Helper()
	r := rand.New(rand.NewSource(79))
	for k := 1; ; k++ {
		l := born(t, blocks, start, size)
		l.d.Arm(k)
		under, ended := story(t, l, txs)
		if !ended {
			return
		}
		pending := l.d.Pending()
		for _, keep := range survivors(r, len(pending), few) {
			what := fmt.Sprintf("Arm(%d), Crash(%v)", k, keep)
			c := l.copied(l.d.Durable(), pending, keep, under)
			c.crashesOfOpen(r, what, 2, each)
			c.sound(what)
		}
	}
}

func TestP7_9EveryCrash(t *testing.T) {
	everyCrash(t, 34, 2, 27, 6, 1, [][]put{
		puts('a', 0, 1, 33), puts('d', 1, 30), puts('g', 0), nil,
		puts('j', 33, 32, 31), puts('m', 0, 1), puts('p', 33, 0), puts('s', 1, 29, 30, 31), puts('w', 0, 1, 32), puts('z', 33),
	})
}

// TestP7_9EveryCrashOfBlocksThatLookLikeTheLogs: the blocks are what a log could hold at their places.
func TestP7_9EveryCrashOfBlocksThatLookLikeTheLogs(t *testing.T) {
	var txs [][]put
	for seq := 1; seq < 9; seq++ {
		whole := loggedByWords(seq+1, puts('x', 0))
		txs = append(txs, []put{{0, whole[0]}, {1, commitByWords(seq)}, {29, whole[2]}, {30, headByWords(seq+1, seq)}})
	}
	everyCrash(t, 31, 2, 27, 5, 2, txs)
}

func TestP7_9EveryCrashOfGreatTransactions(t *testing.T) {
	everyCrash(t, 60, 0, 27, 3, 20, [][]put{puts(1, upTo(27, 51)...), puts(50, upTo(30, 54)...), puts(100, upTo(36, 60)...)})
}

// TestP7_9CrashesWithThePowerOn: a crash may come between any two calls.
func TestP7_9CrashesWithThePowerOn(t *testing.T) {
	l := born(t, 40, 2, 30)
	for i := range 20 {
		j := l.sound("Crash")
		l.tried(j, puts(byte(5*i), 0, 39))
		if i%3 == 0 {
			j.Check()
		}
		x := j.Begin()
		x.Write(1, full(0xee))
		l.d.Crash(nil)
	}
	l.sound("the last one")
}

// someBlock is a block of any kind, also one that looks like the log's own of about this seq.
func someBlock(r *rand.Rand, seq int) []byte {
	seq = max(1, seq+r.Intn(4)-1)
	logged := loggedByWords(seq, puts(byte(r.Intn(256)), r.Intn(2)))
	switch r.Intn(8) {
	case 0:
		return logged[0]
	case 1:
		return logged[2]
	case 2:
		return headByWords(seq, r.Intn(26))
	case 3:
		return padded()
	case 4:
		return starting([]string{"ANXD", "ANXC", "ANXH", "\x00\x00\x00\x00\x01"}[r.Intn(4)])
	}
	return full(byte(r.Intn(256)))
}

func somePuts(r *rand.Rand, l *life) []put {
	var list []put
	many := 1 + r.Intn(4)
	if r.Intn(6) == 0 {
		many = 24
	}
	for _, b := range r.Perm(len(l.holds)) {
		if !l.inside(b) && len(list) < many {
			list = append(list, put{b, someBlock(r, l.seq)})
		}
	}
	return list
}

// lived goes on till the power fails, or till enough was done; it answers the transaction whose Commit met that.
func (l *life) lived(r *rand.Rand) []put {
	l.d.Arm(r.Intn(60))
	j, _, code := journal.Open(l.d, l.start, l.size)
	for range 6 {
		switch {
		case code != api.OK:
			return nil
		case r.Intn(5) == 0:
			code = j.Check()
		default:
			list := somePuts(r, l)
			if code = l.tried(j, list); code != api.OK {
				return list
			}
		}
	}
	return nil
}

// TestP7_9LongLives: crash behind crash, also of Opens.
func TestP7_9LongLives(t *testing.T) {
	for seed := range int64(40) {
		r := rand.New(rand.NewSource(seed))
		size := 27 + r.Intn(5)
		start := r.Intn(10)
		l := born(t, 60, start, size)
		for range 40 {
			under := l.lived(r)
			pending := l.d.Pending()
			keep := survivors(r, len(pending), 0)[r.Intn(8)%(1+7*min(1, len(pending)))]
			l = l.copied(l.d.Durable(), pending, keep, under)
			if r.Intn(3) > 0 {
				l.sound(fmt.Sprintf("seed %d", seed))
			}
		}
		l.sound(fmt.Sprintf("seed %d", seed))
	}
}

// TestP7_10OpenAgainAfterEachTransaction: also without a crash, Open brings home all that was committed; then there is nothing to take.
func TestP7_10OpenAgainAfterEachTransaction(t *testing.T) {
	r := rand.New(rand.NewSource(5))
	l := born(t, 60, 7, 28)
	j := l.sound("at first")
	for i := range 60 {
		l.tried(j, somePuts(r, l))
		if i%3 == 2 {
			j = l.sound(fmt.Sprintf("transaction %d", i))
		}
	}
}
