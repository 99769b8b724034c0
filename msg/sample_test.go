package msg_test

import (
	"encoding/binary"
	"encoding/hex"
	"fmt"
	"hash/fnv"
	"math"
	"slices"
	"strings"
	"testing"

	"annex/api"
)

const mostNumber = 1 << 62

// Texts and numbers at the edges of what may stand in a field, and beyond them.
var (
	numbers = []int{math.MinInt, -1, 0, 1, 2, 4, 5, 6, mostNumber - 1, mostNumber, mostNumber + 1, math.MaxInt}
	ids     = []int{math.MinInt, -1, 0, 1, 256, 1<<49 - 1, 1 << 49, math.MaxInt}
	offs    = []int{math.MinInt, -1, 0, 1, 69631, 69632, 69633, 1 << 32, math.MaxInt}
	lens    = []int{math.MinInt, -1, 0, 1, 15, 16, 17, 1023, 1024, 1025, 1<<32 + 1, math.MaxInt}
	ops     = []int{math.MinInt, -1, 0, 1, 2, 3, 4, 5, 6, 7, 8, 9, 10, 11, 1<<32 + 1, math.MaxInt}
	clients = []int{math.MinInt, -1, 0, 1, 7, 8, 1 << 32, math.MaxInt}
	kinds   = []int{math.MinInt, -1, 0, 1, 2, 3, 1<<32 + 1, math.MaxInt}
	sizes   = []int{math.MinInt, -32, -1, 0, 1, 31, 32, 33, 64, 8159, 8160, 8161, 8192, 69600, 69632, 69633, 69664, math.MaxInt}
	paths   = []string{"", "/", "a", "/a", "/a/b", "/a/", "//", "/..", "/a\x00", longestPath(), longestPath() + "/n", strings.Repeat("/a", 16), strings.Repeat("/a", 17), "/" + strings.Repeat("n", 24)}
	texts   = []string{"", "a", "b", ".", "..", "...", "a/b", "/", "\x00", "\xff\xfe", strings.Repeat("n", 23), strings.Repeat("n", 24)}
	lengths = []int{0, 1, 2, 1023, 1024, 1025, 5000}
)

func longestPath() string { return strings.Repeat("/"+strings.Repeat("n", 23), 16) }

// filled is a list of bytes that are not 0, so that none is taken for padding.
func filled(n int) []byte {
	d := make([]byte, n)
	for i := range d {
		d[i] = byte(i%255 + 1)
	}
	return d
}

// requests has valid requests, of each operation at least one.
func requests() []api.Request {
	all := []api.Request{
		{Op: api.Lookup, Path: "/a"},
		{Op: api.Lookup, Path: "/"},
		{Op: api.Lookup, Path: longestPath()},
		{Op: api.Getattr, Id: 256},
		{Op: api.Getattr, Id: 1<<49 - 1},
		{Op: api.Read, Id: 257, Off: 3, Len: 9},
		{Op: api.Read, Id: 1, Len: 1024},
		{Op: api.Write, Id: 257, Off: 3, Data: []byte{255}},
		{Op: api.Write, Id: 256<<32 + 9, Off: 69632, Data: filled(1024)},
		{Op: api.Create, Id: 256, Name: "a"},
		{Op: api.Remove, Id: 256, Name: "ab"},
		{Op: api.Mkdir, Id: 256, Name: "abc"},
		{Op: api.Rmdir, Id: 256, Name: strings.Repeat("n", 23)},
		{Op: api.Rename, Id: 256, Name: "a", Id2: 258, Name2: "bcde"},
		{Op: api.Readdir, Id: 256, Len: 16},
		{Op: api.Readdir, Id: 256, Len: 1, Name: "\xff"},
	}
	for i := range all {
		all[i].Client, all[i].Seq, all[i].Ack, all[i].Epoch = 1, 5, 4, 2
	}
	last := all[3]
	last.Client, last.Seq, last.Ack, last.Epoch = 7, mostNumber, mostNumber-1, mostNumber
	first := all[3]
	first.Client, first.Seq, first.Ack, first.Epoch = 0, 1, 0, 0
	return append(all, first, last)
}

// replies has valid replies, of each operation and each status at least one.
func replies() []api.Reply {
	file := api.Attr{Id: 257, Kind: 1, Size: 9, Change: 7}
	dir := api.Attr{Id: 256, Kind: 2, Size: 8160, Change: mostNumber}
	all := []api.Reply{
		{Op: api.Lookup, Attr: file},
		{Op: api.Lookup, Attr: dir},
		{Op: api.Getattr, Attr: file},
		{Op: api.Getattr, Attr: dir},
		{Op: api.Read, Attr: file, Data: []byte("abc")},
		{Op: api.Read, Attr: file},
		{Op: api.Read, Attr: api.Attr{Id: 1<<49 - 1, Kind: 1, Size: 69632}, Data: filled(1024)},
		{Op: api.Write, Attr: file},
		{Op: api.Create, Attr: api.Attr{Id: 1, Kind: 1}},
		{Op: api.Remove},
		{Op: api.Mkdir, Attr: api.Attr{Id: 300, Kind: 2}},
		{Op: api.Rmdir},
		{Op: api.Rename},
		{Op: api.Readdir},
		{Op: api.Readdir, List: []api.Entry{{Name: "a", Id: 257, Kind: 1}}},
		{Op: api.Readdir, List: []api.Entry{{Name: "a", Id: 257, Kind: 1}, {Name: "b", Id: 258, Kind: 2}}, More: true},
		{Op: api.Readdir, List: entries(16), More: true},
	}
	for i, status := range statuses()[1:] {
		all = append(all, api.Reply{Op: 1 + i%10, Status: status})
	}
	for i := range all {
		all[i].Client, all[i].Seq, all[i].Epoch = 1, 5, 2
	}
	return append(all, api.Reply{Client: 7, Seq: mostNumber, Epoch: mostNumber, Op: api.Rename}, api.Reply{Client: 0, Seq: 1, Epoch: 1, Op: api.Rename})
}

// statuses are 0 and the numbers of the document's list.
func statuses() []api.Errno {
	return []api.Errno{0, 91, 92, 101, 121, 122, 123, 124, 125, 126, 127, 151, 152}
}

// entries is a list of n entries whose names rise.
func entries(n int) []api.Entry {
	list := make([]api.Entry, n)
	for i := range list {
		list[i] = api.Entry{Name: strings.Repeat("n", 22) + string(rune('a'+i)), Id: 256 + i, Kind: 1 + i%2}
	}
	return list
}

// told is a message as a text, cut off: some are great.
func told(message any) string {
	s := fmt.Sprintf("%#v", message)
	return s[:min(len(s), 400)]
}

func fromHex(t *testing.T, h string) []byte {
	t.Helper()
	b, err := hex.DecodeString(strings.ReplaceAll(h, " ", ""))
	if err != nil {
		t.Fatal(err)
	}
	return b
}

// summed has the sum behind b.
func summed(b []byte) []byte {
	h := fnv.New64a()
	h.Write(b)
	return h.Sum(slices.Clone(b))
}

func put32(b []byte, x int) []byte { return binary.BigEndian.AppendUint32(b, uint32(x)) }

func put64(b []byte, x int) []byte { return binary.BigEndian.AppendUint64(b, uint64(x)) }

func putText(b []byte, s string) []byte {
	b = append(put32(b, len(s)), s...)
	return append(b, make([]byte, (4-len(s)%4)%4)...)
}

// requestWords has the bytes of a request ahead of its sum, an operation behind the other as the chapter has them.
func requestWords(r api.Request) []byte {
	b := put32([]byte("ANQ1"), r.Client)
	b = put32(put64(put64(put64(b, r.Seq), r.Ack), r.Epoch), r.Op)
	switch r.Op {
	case 1:
		return putText(b, r.Path)
	case 2:
		return put64(b, r.Id)
	case 3:
		return put32(put32(put64(b, r.Id), r.Off), r.Len)
	case 4:
		return putText(put32(put64(b, r.Id), r.Off), string(r.Data))
	case 9:
		return putText(put64(putText(put64(b, r.Id), r.Name), r.Id2), r.Name2)
	case 10:
		return putText(put32(put64(b, r.Id), r.Len), r.Name)
	}
	return putText(put64(b, r.Id), r.Name)
}

// replyWords has the bytes of a reply ahead of its sum.
func replyWords(r api.Reply) []byte {
	b := put32([]byte("ANR1"), r.Client)
	b = put32(put32(put64(put64(b, r.Seq), r.Epoch), r.Op), int(r.Status))
	if r.Status != 0 || r.Op == 6 || r.Op == 8 || r.Op == 9 {
		return b
	}
	if r.Op == 10 {
		b = put32(b, len(r.List))
		for _, e := range r.List {
			b = put32(put64(putText(b, e.Name), e.Id), e.Kind)
		}
		if r.More {
			return put32(b, 1)
		}
		return put32(b, 0)
	}
	b = put64(put32(put32(put64(b, r.Attr.Id), r.Attr.Kind), r.Attr.Size), r.Attr.Change)
	if r.Op == 3 {
		b = putText(b, string(r.Data))
	}
	return b
}

func sameRequest(a, b api.Request) bool {
	same := slices.Equal(a.Data, b.Data)
	return same && a.Client == b.Client && a.Seq == b.Seq && a.Ack == b.Ack && a.Epoch == b.Epoch && a.Op == b.Op &&
		a.Id == b.Id && a.Id2 == b.Id2 && a.Off == b.Off && a.Len == b.Len && a.Path == b.Path && a.Name == b.Name && a.Name2 == b.Name2
}

func sameReply(a, b api.Reply) bool {
	same := slices.Equal(a.Data, b.Data) && slices.Equal(a.List, b.List)
	return same && a.Client == b.Client && a.Seq == b.Seq && a.Epoch == b.Epoch && a.Op == b.Op && a.Status == b.Status && a.Attr == b.Attr && a.More == b.More
}
