package fsck_test

import (
	"bytes"
	"fmt"
	"math/rand"
	"slices"
	"strconv"
	"strings"
	"testing"

	"annex/api"
	"annex/device"
	"annex/fsck"
	"annex/journal"
	"annex/msg"
	"annex/server"
)

// user makes up what comes to a server, from clients that keep to no rule but to go on.
type user struct {
	t     *testing.T
	r     *rand.Rand
	shape api.Shape
	d     *device.Device
	v     *server.Server
	seq   []int // by clients
	ids   []int // that were heard of
	sent  [][]byte
}

func userOf(t *testing.T, s api.Shape, seed int64) *user {
	t.Helper()
	u := &user{t: t, r: rand.New(rand.NewSource(seed)), shape: s, seq: make([]int, s.Clients), ids: []int{256, 256}}
	u.d, _ = device.Image(diskOf(t, s).b)
	u.boot()
	return u
}

func (u *user) boot() {
	u.t.Helper()
	v, code := server.Open(u.d)
	is(u.t, "Open", code, api.OK)
	u.v = v
}

func (u *user) name() string {
	return []string{"a", "b", "c", "a b", "%", "\xff", ".x"}[u.r.Intn(7)]
}

func (u *user) id() int {
	if u.r.Intn(12) == 0 {
		return 256*(1+u.r.Intn(3)) + u.r.Intn(u.shape.Inodes+1)
	}
	return u.ids[u.r.Intn(len(u.ids))]
}

func (u *user) request() api.Request {
	c := u.r.Intn(u.shape.Clients)
	u.seq[c] += u.r.Intn(8) / 2 % 2
	q := api.Request{Client: c, Seq: max(1, u.seq[c]), Epoch: u.v.Epoch(), Op: []int{1, 2, 3, 4, 4, 4, 5, 5, 5, 6, 7, 7, 7, 8, 9, 9, 10}[u.r.Intn(17)]}
	q.Ack = max(0, q.Seq-1-u.r.Intn(u.shape.Window))
	if q.Op == api.Lookup {
		q.Path = "/" + u.name()
		return q
	}
	q.Id = u.id()
	switch q.Op {
	case api.Read:
		q.Off, q.Len = u.r.Intn(2000), 1024
	case api.Write:
		q.Data = make([]byte, 1+u.r.Intn(1024))
		u.r.Read(q.Data)
		if q.Off = u.r.Intn(3000); u.r.Intn(3) == 0 {
			q.Off = u.r.Intn(api.MaxSize)
		}
	case api.Readdir:
		q.Len = 16
	case api.Rename:
		q.Name, q.Id2, q.Name2 = u.name(), u.id(), u.name()
	case api.Create, api.Remove, api.Mkdir, api.Rmdir:
		q.Name = u.name()
	}
	return q
}

// arrives lets a datagram come: a new one, an old one, or one that is spoilt.
func (u *user) arrives() {
	b, code := msg.EncodeRequest(u.request())
	is(u.t, "EncodeRequest", code, api.OK)
	u.sent = append(u.sent, bytes.Clone(b))
	switch u.r.Intn(12) {
	case 0:
		b = u.sent[u.r.Intn(len(u.sent))]
	case 1:
		b[u.r.Intn(len(b))] ^= 4
	}
	u.v.Receive(b)
}

func (u *user) step() api.Errno {
	out, code := u.v.Step()
	for _, p := range out {
		if r, code := msg.DecodeReply(p.Data); code == api.OK && r.Attr.Id != 0 {
			u.ids = append(u.ids, r.Attr.Id)
			u.ids = u.ids[max(0, len(u.ids)-10):]
		}
	}
	return code
}

// served is an image behind so many steps of a server, as they left it.
func served(t *testing.T, s api.Shape, seed int64, steps int) *disk {
	t.Helper()
	u := userOf(t, s, seed)
	for range steps {
		u.arrives()
		u.step()
		if u.r.Intn(20) == 0 {
			u.d.Crash(nil)
			u.boot()
		}
	}
	d := diskOf(t, s)
	d.b = u.d.Durable()
	return d
}

// home is an image behind journal.Open: nothing is to be taken any more.
func home(t *testing.T, image []byte) []byte {
	t.Helper()
	d, _ := device.Image(image)
	block, _ := d.Read(0)
	_, _, code := journal.Open(d, 2, int(u32(block[32:])))
	is(t, "journal.Open", code, api.OK)
	return d.Durable()
}

// left is what a crash leaves, with these survivors.
func left(d *device.Device, keep []bool) []byte {
	image := d.Durable()
	for i, p := range d.Pending() {
		if keep[i] {
			copy(image[512*p.Block:], p.Data)
		}
	}
	return image
}

func sound(t *testing.T, what string, image []byte) {
	t.Helper()
	if ok, code := fsck.Sound(image); !ok || code != api.OK {
		list, _ := fsck.Check(image)
		t.Fatalf("%s: Sound: %v, %d: %q", what, ok, code, list)
	}
}

// survivors are all choices, where few writes pend, and some by chance, where many do.
func survivors(r *rand.Rand, many int) [][]bool {
	var list [][]bool
	most := 24
	if many <= 4 {
		most = 1 << many
	}
	for m := range most {
		keep := make([]bool, many)
		for i := range keep {
			keep[i] = m>>i&1 == 1
			if many > 4 {
				keep[i] = m == 1 || m > 1 && r.Intn(2) == 0
			}
		}
		list = append(list, keep)
	}
	return list
}

// soundAtAll holds that the lasting bytes are sound, and those that any crash would leave.
func (u *user) soundAtAll(what string) {
	u.t.Helper()
	sound(u.t, what, u.d.Durable())
	many := len(u.d.Pending())
	if many == 0 {
		return
	}
	for _, keep := range survivors(u.r, many) {
		sound(u.t, fmt.Sprint(what, ", survivors ", keep), left(u.d, keep))
	}
}

// crash lets the power come back with some survivors; a boot may meet the next power loss.
func (u *user) crash() {
	for {
		list := survivors(u.r, len(u.d.Pending()))
		u.d.Crash(list[u.r.Intn(len(list))])
		u.soundAtAll("behind a crash")
		if u.r.Intn(3) == 0 {
			u.d.Arm(1 + u.r.Intn(12))
		}
		v, code := server.Open(u.d)
		u.soundAtAll("behind a boot")
		if code == api.OK {
			u.v = v
			u.d.Arm(0)
			return
		}
		is(u.t, "Open", code, api.ErrPower)
	}
}

// TestP23_6Sound: at each moment of plays by chance, with power losses at any write of a step or a boot.
func TestP23_6Sound(t *testing.T) {
	for seed := range int64(24) {
		u := userOf(t, shapes()[seed%4], seed)
		for i := range 120 {
			what := fmt.Sprint("seed ", seed, ", step ", i)
			for range u.r.Intn(3) {
				u.arrives()
			}
			u.soundAtAll(what)
			if u.r.Intn(3) == 0 {
				u.d.Arm(1 + u.r.Intn(15))
			}
			code := u.step()
			u.soundAtAll(what)
			if code != api.OK || u.r.Intn(15) == 0 {
				u.crash()
			}
			if u.d.Power() {
				u.d.Arm(0)
			}
		}
	}
}

// TestP23_6EachOperation: a power loss at each of the device's operations of a boot and a step, over images that are not home.
func TestP23_6EachOperation(t *testing.T) {
	r := rand.New(rand.NewSource(1))
	for _, q := range []api.Request{
		{Op: api.Mkdir, Id: 256, Name: "new"}, {Op: api.Create, Id: 256, Name: "new"}, {Op: api.Getattr, Id: 256}, {Op: api.Lookup, Path: "/x"},
	} {
		for steps := 10; steps < 13; steps++ {
			image := served(t, uneven, int64(steps), steps).b
			over, failed := false, 0
			for k := 1; !over; k++ {
				u := &user{t: t, r: r, shape: uneven}
				u.d, _ = device.Image(image)
				u.d.Arm(k)
				v, code := server.Open(u.d)
				if code == api.OK {
					q.Client, q.Epoch = 1, v.Epoch()
					q.Ack = v.Marks()[1]
					q.Seq = q.Ack + 3
					b, _ := msg.EncodeRequest(q)
					v.Receive(b)
					_, code = v.Step()
				}
				over = code == api.OK
				if !over {
					failed++
				}
				u.soundAtAll(fmt.Sprint("Arm ", k))
			}
			if failed < 8 {
				t.Errorf("only %d operations of a boot and a step", failed)
			}
		}
	}
}

// sizes is the sum of the SIZEs of Tree's files.
func sizes(t *testing.T, lines []string) int {
	t.Helper()
	sum := 0
	for _, l := range lines {
		if words := strings.Fields(l); words[0] == "file" {
			n, err := strconv.Atoi(words[3])
			is(t, "a size", err, nil)
			sum += n
		}
	}
	return sum
}

// TestP23_7Tree: a line for each inode in use, and the files' sizes, as a server tells them.
func TestP23_7Tree(t *testing.T) {
	for seed := range int64(60) {
		s := shapes()[seed%4]
		image := served(t, s, seed, int(seed)*3).b
		sound(t, "served", image)
		lines, code := fsck.Tree(image)
		is(t, "Tree's error", code, api.OK)
		d, _ := device.Image(image)
		v, code := server.Open(d)
		is(t, "Open", code, api.OK)
		size, inodes := v.Usage()
		is(t, "lines", len(lines), inodes)
		is(t, "sizes", sizes(t, lines), size)
		ids := map[string]int{}
		for _, l := range lines {
			ids[strings.Fields(l)[2]]++
		}
		is(t, "ids", len(ids), inodes)
		behind, _ := fsck.Tree(d.Durable())
		is(t, "Tree behind a boot", whole(behind), whole(lines))
	}
}

// TestP23_7Bits: each bit of the bitmap turned makes just one line.
func TestP23_7Bits(t *testing.T) {
	for i, s := range shapes() {
		d := served(t, s, int64(i), 80)
		d.b = home(t, d.b)
		checks(t, "as it is", d.b, api.OK)
		tree, _ := fsck.Tree(d.b)
		for n := range d.l.DataLen {
			b := d.block(d.l.Bits)
			used := b[n/8]&(1<<(n%8)) != 0
			b[n/8] ^= 1 << (n % 8)
			word := "lost "
			if used {
				word = "free "
			}
			says(t, "a bit turned", d.b, api.OK, []string{fmt.Sprint(word, d.l.Data+n)}, tree)
			b[n/8] ^= 1 << (n % 8)
		}
	}
}

// TestP23_8Home: of what servers left, crashes between.
func TestP23_8Home(t *testing.T) {
	for seed := range int64(40) {
		image := served(t, shapes()[seed%4], seed, 2+int(seed)).b
		is(t, "behind journal.Open", answers(home(t, image)), answers(image))
		tree, _ := fsck.Tree(image)
		is(t, "twice in Tree", len(slices.Compact(slices.Sorted(slices.Values(tree)))), len(tree))
	}
}
