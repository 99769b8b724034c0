package msg_test

import (
	"bytes"
	"testing"

	"annex/api"
	"annex/msg"
)

func encodeRequest(t *testing.T, r api.Request) []byte {
	t.Helper()
	b, code := msg.EncodeRequest(r)
	if code != api.OK {
		t.Fatalf("EncodeRequest(%s) = %d", told(r), code)
	}
	return b
}

func encodeReply(t *testing.T, r api.Reply) []byte {
	t.Helper()
	b, code := msg.EncodeReply(r)
	if code != api.OK {
		t.Fatalf("EncodeReply(%s) = %d", told(r), code)
	}
	return b
}

func TestP4_3RequestExamples(t *testing.T) {
	const head = "414e5131 00000001 0000000000000005 0000000000000004 0000000000000002 "
	for _, c := range []struct {
		r api.Request
		h string
	}{
		{api.Request{Op: api.Lookup, Path: "/a"}, "00000001 00000002 2f610000"},
		{api.Request{Op: api.Getattr, Id: 256}, "00000002 0000000000000100"},
		{api.Request{Op: api.Read, Id: 1<<49 - 1, Off: 258, Len: 1024}, "00000003 0001ffffffffffff 00000102 00000400"},
		{api.Request{Op: api.Write, Id: 256, Off: 3, Data: []byte{255}}, "00000004 0000000000000100 00000003 00000001 ff000000"},
		{api.Request{Op: api.Create, Id: 256, Name: "abcde"}, "00000005 0000000000000100 00000005 6162636465000000"},
		{api.Request{Op: api.Remove, Id: 256, Name: "abcd"}, "00000006 0000000000000100 00000004 61626364"},
		{api.Request{Op: api.Mkdir, Id: 256, Name: "abc"}, "00000007 0000000000000100 00000003 61626300"},
		{api.Request{Op: api.Rmdir, Id: 256, Name: "ab"}, "00000008 0000000000000100 00000002 61620000"},
		{api.Request{Op: api.Rename, Id: 256, Name: "a", Id2: 258, Name2: "b"}, "00000009 0000000000000100 00000001 61000000 0000000000000102 00000001 62000000"},
		{api.Request{Op: api.Readdir, Id: 256, Len: 16}, "0000000a 0000000000000100 00000010 00000000"},
		{api.Request{Op: api.Readdir, Id: 256, Len: 2, Name: "a"}, "0000000a 0000000000000100 00000002 00000001 61000000"},
	} {
		c.r.Client, c.r.Seq, c.r.Ack, c.r.Epoch = 1, 5, 4, 2
		if got, want := encodeRequest(t, c.r), summed(fromHex(t, head+c.h)); !bytes.Equal(got, want) {
			t.Errorf("EncodeRequest(%s) = %x, want %x", told(c.r), got, want)
		}
	}
	r := api.Request{Client: 1, Seq: 5, Ack: 4, Epoch: 2, Op: api.Getattr, Id: 256}
	if n := len(encodeRequest(t, r)); n != 52 {
		t.Errorf("GETATTR has %d bytes, want 52", n)
	}
}

func TestP4_3ReplyExamples(t *testing.T) {
	const head = "414e5231 00000001 0000000000000005 0000000000000002 "
	file := api.Attr{Id: 257, Kind: 1, Size: 69632, Change: mostNumber}
	const fileHex = "0000000000000101 00000001 00011000 4000000000000000"
	list := []api.Entry{{Name: "a", Id: 257, Kind: 1}, {Name: "bcdef", Id: 258, Kind: 2}}
	const listHex = "00000002 00000001 61000000 0000000000000101 00000001 00000005 6263646566000000 0000000000000102 00000002"
	for _, c := range []struct {
		r api.Reply
		h string
	}{
		{api.Reply{Op: api.Lookup, Attr: file}, "00000001 00000000" + fileHex},
		{api.Reply{Op: api.Getattr, Attr: api.Attr{Id: 256, Kind: 2, Size: 64, Change: 7}}, "00000002 00000000 0000000000000100 00000002 00000040 0000000000000007"},
		{api.Reply{Op: api.Read, Attr: file, Data: []byte("abc")}, "00000003 00000000" + fileHex + "00000003 61626300"},
		{api.Reply{Op: api.Read, Attr: file}, "00000003 00000000" + fileHex + "00000000"},
		{api.Reply{Op: api.Write, Attr: file}, "00000004 00000000" + fileHex},
		{api.Reply{Op: api.Create, Attr: file}, "00000005 00000000" + fileHex},
		{api.Reply{Op: api.Remove, Status: api.ErrNoEnt}, "00000006 00000079"},
		{api.Reply{Op: api.Remove}, "00000006 00000000"},
		{api.Reply{Op: api.Mkdir, Attr: api.Attr{Id: 256, Kind: 2}}, "00000007 00000000 0000000000000100 00000002 00000000 0000000000000000"},
		{api.Reply{Op: api.Rmdir}, "00000008 00000000"},
		{api.Reply{Op: api.Rename}, "00000009 00000000"},
		{api.Reply{Op: api.Readdir}, "0000000a 00000000 00000000 00000000"},
		{api.Reply{Op: api.Readdir, List: list, More: true}, "0000000a 00000000" + listHex + "00000001"},
		{api.Reply{Op: api.Readdir, List: list}, "0000000a 00000000" + listHex + "00000000"},
		{api.Reply{Op: api.Read, Status: api.ErrBusy}, "00000003 00000097"},
	} {
		c.r.Client, c.r.Seq, c.r.Epoch = 1, 5, 2
		if got, want := encodeReply(t, c.r), summed(fromHex(t, head+c.h)); !bytes.Equal(got, want) {
			t.Errorf("EncodeReply(%s) = %x, want %x", told(c.r), got, want)
		}
	}
}

func TestP4_3AsTheChapterLaysThem(t *testing.T) {
	for _, r := range requests() {
		if got, want := encodeRequest(t, r), summed(requestWords(r)); !bytes.Equal(got, want) {
			t.Errorf("EncodeRequest(%s) = %x, want %x", told(r), got, want)
		}
	}
	for _, r := range replies() {
		if got, want := encodeReply(t, r), summed(replyWords(r)); !bytes.Equal(got, want) {
			t.Errorf("EncodeReply(%s) = %x, want %x", told(r), got, want)
		}
	}
}

func TestP4_3CheckErrorAndNothing(t *testing.T) {
	for _, sample := range requests() {
		for _, edit := range requestEdits() {
			for _, client := range []int{0, 8} {
				r := sample
				r.Client = client
				edit(&r)
				want := requestByWords(r)
				if b, code := msg.EncodeRequest(r); code != want || (b == nil) != (want != api.OK) {
					t.Fatalf("EncodeRequest(%s) = %x, %d, want %d", told(r), b, code, want)
				}
			}
		}
	}
	for _, sample := range replies() {
		for _, edit := range replyEdits() {
			for _, epoch := range []int{0, 1} {
				r := sample
				r.Epoch = epoch
				edit(&r)
				want := replyByWords(r)
				if b, code := msg.EncodeReply(r); code != want || (b == nil) != (want != api.OK) {
					t.Fatalf("EncodeReply(%s) = %x, %d, want %d", told(r), b, code, want)
				}
			}
		}
	}
}

func TestP4_3Longest(t *testing.T) {
	longest := 0
	for _, r := range requests() {
		longest = max(longest, len(encodeRequest(t, r)))
	}
	if longest != 1084 {
		t.Errorf("the longest request has %d bytes", longest)
	}
	longest = 0
	for _, r := range replies() {
		longest = max(longest, len(encodeReply(t, r)))
	}
	if longest != 1092 {
		t.Errorf("the longest reply has %d bytes", longest)
	}
}

func TestP4_5Kind(t *testing.T) {
	for _, c := range []struct {
		b    string
		want int
	}{
		{"", 0}, {"A", 0}, {"ANQ", 0}, {"ANR", 0}, {"ANQ1", 1}, {"ANR1", 2}, {"ANR1x", 2}, {"ANQ1ANR1", 1}, {"ANS1", 0}, {"ANQ2", 0},
		{"anq1", 0}, {"anr1", 0}, {" ANQ1", 0}, {"\x00NQ1", 0}, {"AMR1", 0}, {"ANR1" + string(make([]byte, 5000)), 2}, {"ANQ1" + string(make([]byte, 5000)), 1},
	} {
		if got := msg.Kind([]byte(c.b)); got != c.want {
			t.Errorf("Kind(%.20q) = %d, want %d", c.b, got, c.want)
		}
	}
	if got := msg.Kind(nil); got != 0 {
		t.Errorf("Kind(nil) = %d", got)
	}
}

func TestP4_5EachFirstByte(t *testing.T) {
	for at := range 4 {
		for x := range 256 {
			for _, good := range []string{"ANQ1", "ANR1"} {
				b := []byte(good + "rest")
				b[at] = byte(x)
				want := map[string]int{"ANQ1": 1, "ANR1": 2}[string(b[:4])]
				if got := msg.Kind(b); got != want {
					t.Errorf("Kind(%q) = %d, want %d", b, got, want)
				}
			}
		}
	}
}

func TestP4_5KindOfDatagrams(t *testing.T) {
	for _, r := range requests() {
		if got := msg.Kind(encodeRequest(t, r)); got != 1 {
			t.Errorf("Kind of a request = %d", got)
		}
	}
	for _, r := range replies() {
		if got := msg.Kind(encodeReply(t, r)); got != 2 {
			t.Errorf("Kind of a reply = %d", got)
		}
	}
}
