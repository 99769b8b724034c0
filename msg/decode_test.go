package msg_test

import (
	"bytes"
	"encoding/binary"
	"math/rand"
	"slices"
	"strings"
	"testing"

	"annex/api"
	"annex/msg"
)

// decodesAsWords tries b with both Decodes, and writes again what one takes.
func decodesAsWords(t *testing.T, b []byte) {
	t.Helper()
	wantRequest, want := decodeRequestByWords(b)
	r, code := msg.DecodeRequest(b)
	if code != want || !sameRequest(r, wantRequest) {
		t.Fatalf("DecodeRequest(%x) = %s, %d, want %s, %d", b, told(r), code, told(wantRequest), want)
	}
	if again, _ := msg.EncodeRequest(r); code == api.OK && !bytes.Equal(again, b) {
		t.Fatalf("EncodeRequest of what %x says = %x", b, again)
	}
	wantReply, want := decodeReplyByWords(b)
	y, code := msg.DecodeReply(b)
	if code != want || !sameReply(y, wantReply) {
		t.Fatalf("DecodeReply(%x) = %s, %d, want %s, %d", b, told(y), code, told(wantReply), want)
	}
	if again, _ := msg.EncodeReply(y); code == api.OK && !bytes.Equal(again, b) {
		t.Fatalf("EncodeReply of what %x says = %x", b, again)
	}
}

// unsummed has the bytes of each valid message ahead of their sum.
func unsummed() [][]byte {
	var all [][]byte
	for _, r := range requests() {
		all = append(all, requestWords(r))
	}
	for _, r := range replies() {
		all = append(all, replyWords(r))
	}
	return all
}

func refused(t *testing.T, what string, b []byte, request, reply api.Errno) {
	t.Helper()
	if r, code := msg.DecodeRequest(b); code != request || !sameRequest(r, api.Request{}) {
		t.Errorf("DecodeRequest of %s = %s, %d, want %d", what, told(r), code, request)
	}
	if r, code := msg.DecodeReply(b); code != reply || !sameReply(r, api.Reply{}) {
		t.Errorf("DecodeReply of %s = %s, %d, want %d", what, told(r), code, reply)
	}
}

func TestP4_4Examples(t *testing.T) {
	getattr := requestWords(api.Request{Client: 1, Seq: 5, Ack: 4, Epoch: 2, Op: 2, Id: 256})
	turned := summed(getattr)
	turned[15] = 6
	refused(t, "nothing", nil, api.ErrMagic, api.ErrMagic)
	refused(t, "ANQ1", []byte("ANQ1"), api.ErrSum, api.ErrMagic)
	refused(t, "ANR1", []byte("ANR1"), api.ErrMagic, api.ErrSum)
	refused(t, "1401 bytes", make([]byte, 1401), api.ErrBig, api.ErrBig)
	refused(t, "a seq turned", turned, api.ErrSum, api.ErrMagic)
	for _, rest := range []string{"", "00", "ffff", "0000000000000100", strings.Repeat("ff", 1000)} {
		b := append(getattr[:32:32], 0, 0, 0, 11)
		refused(t, "Op 11", summed(append(b, fromHex(t, rest)...)), api.ErrOp, api.ErrMagic)
	}
	refused(t, "four bytes more", summed(append(getattr[:44:44], 0, 0, 0, 0)), api.ErrRest, api.ErrMagic)
	for _, r := range requests() {
		if y, code := msg.DecodeReply(summed(requestWords(r))); code != api.ErrMagic || !sameReply(y, api.Reply{}) {
			t.Errorf("DecodeReply of a request = %s, %d", told(y), code)
		}
	}
	for _, y := range replies() {
		if r, code := msg.DecodeRequest(summed(replyWords(y))); code != api.ErrMagic || !sameRequest(r, api.Request{}) {
			t.Errorf("DecodeRequest of a reply = %s, %d", told(r), code)
		}
	}
}

func TestP4_4ThereAndBack(t *testing.T) {
	for _, r := range requests() {
		if got, code := msg.DecodeRequest(encodeRequest(t, r)); code != api.OK || !sameRequest(got, r) {
			t.Errorf("DecodeRequest of %s = %s, %d", told(r), told(got), code)
		}
	}
	for _, r := range replies() {
		if got, code := msg.DecodeReply(encodeReply(t, r)); code != api.OK || !sameReply(got, r) {
			t.Errorf("DecodeReply of %s = %s, %d", told(r), told(got), code)
		}
	}
}

func TestP4_4EdgesThereAndBack(t *testing.T) {
	for _, sample := range requests() {
		for _, edit := range requestEdits() {
			r := sample
			edit(&r)
			if b, code := msg.EncodeRequest(r); code == api.OK {
				if got, code := msg.DecodeRequest(b); code != api.OK || !sameRequest(got, r) {
					t.Errorf("DecodeRequest of %s = %s, %d", told(r), told(got), code)
				}
			}
		}
	}
	for _, sample := range replies() {
		for _, edit := range replyEdits() {
			r := sample
			edit(&r)
			if b, code := msg.EncodeReply(r); code == api.OK {
				if got, code := msg.DecodeReply(b); code != api.OK || !sameReply(got, r) {
					t.Errorf("DecodeReply of %s = %s, %d", told(r), told(got), code)
				}
			}
		}
	}
}

func TestP4_4BigAheadOfAll(t *testing.T) {
	for _, n := range []int{1399, 1400, 1401, 1402, 100000} {
		for _, begin := range []string{"", "ANQ1", "ANR1"} {
			b := slices.Concat([]byte(begin), make([]byte, n-8-len(begin)))
			decodesAsWords(t, summed(b))
			decodesAsWords(t, append(b, make([]byte, 8)...))
		}
	}
	refused(t, "a request of 1401 bytes", summed(append([]byte("ANQ1"), make([]byte, 1389)...)), api.ErrBig, api.ErrBig)
	refused(t, "a request of 1400 bytes", summed(append([]byte("ANQ1"), make([]byte, 1388)...)), api.ErrSeq, api.ErrMagic)
}

func TestP4_4MagicAheadOfTheSum(t *testing.T) {
	for n := range 20 {
		refused(t, "zeros", make([]byte, n), api.ErrMagic, api.ErrMagic)
		refused(t, "zeros with a sum", summed(make([]byte, n)), api.ErrMagic, api.ErrMagic)
	}
	for n := range 8 {
		refused(t, "too few bytes", append([]byte("ANQ1"), make([]byte, n)...), api.ErrSum, api.ErrMagic)
		refused(t, "too few bytes", append([]byte("ANR1"), make([]byte, n)...), api.ErrMagic, api.ErrSum)
	}
	refused(t, "the magic and its sum", summed([]byte("ANQ1")), api.ErrShort, api.ErrMagic)
	refused(t, "the magic and its sum", summed([]byte("ANR1")), api.ErrMagic, api.ErrShort)
}

func TestP4_4WrongSum(t *testing.T) {
	for _, b := range unsummed() {
		whole := summed(b)
		for at := len(b); at < len(whole); at++ {
			spoilt := slices.Clone(whole)
			spoilt[at] ^= 1
			decodesAsWords(t, spoilt)
			request, reply := api.ErrSum, api.ErrMagic
			if b[2] == 'R' {
				request, reply = reply, request
			}
			refused(t, "a wrong sum", spoilt, request, reply)
		}
		decodesAsWords(t, append(whole, 0))
		decodesAsWords(t, whole[:len(whole)-1])
		decodesAsWords(t, b)
	}
}

func TestP4_4CutOff(t *testing.T) {
	for _, b := range unsummed() {
		for n := range len(b) {
			decodesAsWords(t, summed(b[:n]))
			if _, code := msg.DecodeRequest(summed(b[:n])); b[2] == 'Q' && n >= 4 && code != api.ErrShort {
				t.Fatalf("DecodeRequest of %x, cut at %d = %d", b, n, code)
			}
			if _, code := msg.DecodeReply(summed(b[:n])); b[2] == 'R' && n >= 4 && code != api.ErrShort {
				t.Fatalf("DecodeReply of %x, cut at %d = %d", b, n, code)
			}
		}
		decodesAsWords(t, summed(b))
	}
}

func TestP4_4BytesMore(t *testing.T) {
	for _, b := range unsummed() {
		for n := 1; n < 20; n++ {
			for _, x := range []byte{0, 1, 255} {
				more := summed(append(b[:len(b):len(b)], bytes.Repeat([]byte{x}, n)...))
				decodesAsWords(t, more)
				if b[2] == 'Q' {
					refused(t, "more bytes", more, api.ErrRest, api.ErrMagic)
				} else {
					refused(t, "more bytes", more, api.ErrMagic, api.ErrRest)
				}
			}
		}
	}
}

// words4 and words8 are what is laid over the bytes of a datagram: each edge of a field, and what no field may hold.
var (
	words4 = []uint32{0, 1, 2, 3, 6, 7, 8, 10, 11, 15, 16, 17, 23, 24, 31, 32, 91, 93, 121, 152, 153, 384, 385, 1023, 1024, 1025, 8160, 8192, 69632, 69633, 1<<31 - 1, 1 << 31, 1<<32 - 1, 0x61000001, 0x2f610000}
	words8 = []uint64{0, 1, 4, 5, 6, 256, 1<<49 - 1, 1 << 49, mostNumber - 1, mostNumber, mostNumber + 1, 1<<63 - 1, 1 << 63, 1<<64 - 1}
)

// edits has b with another word laid over it, at each place and of each value.
func edits(b []byte, each func(b []byte)) {
	for at := 4; at+4 <= len(b) && at < 160; at += 4 {
		for _, x := range words4 {
			other := slices.Clone(b)
			binary.BigEndian.PutUint32(other[at:], x)
			each(other)
		}
		for _, x := range words8 {
			other := slices.Clone(b)
			if at+8 <= len(b) {
				binary.BigEndian.PutUint64(other[at:], x)
			}
			each(other)
		}
	}
}

func TestP4_4OtherWords(t *testing.T) {
	for _, b := range unsummed() {
		edits(b, func(other []byte) { decodesAsWords(t, summed(other)) })
	}
}

// TestP4_4TwoOtherWords finds which of two errors comes first.
func TestP4_4TwoOtherWords(t *testing.T) {
	for _, b := range unsummed() {
		if len(b) > 80 {
			continue
		}
		count := 0
		edits(b, func(first []byte) {
			count++
			if count%17 != 0 { // all of them would take long
				return
			}
			edits(first, func(other []byte) { decodesAsWords(t, summed(other)) })
		})
	}
}

func TestP4_4OtherWordsCutOff(t *testing.T) {
	source := rand.New(rand.NewSource(4))
	for _, b := range unsummed() {
		edits(b, func(other []byte) {
			decodesAsWords(t, summed(other[:source.Intn(len(other))]))
			decodesAsWords(t, summed(append(other, filled(source.Intn(9))...)))
		})
	}
}

func TestP4_4ErrorsInTheirOrder(t *testing.T) {
	const magic, head = "414e5231", "414e5231 00000001 0000000000000005 0000000000000002 "
	for _, c := range []struct {
		what, h string
		want    api.Errno
	}{
		{"a wide seq and the client 8", magic + "00000008 8000000000000005 0000000000000002 0000000b 00000001", api.ErrWide},
		{"a header without its status, of the client 8", magic + "00000008 0000000000000000 0000000000000000 0000000b", api.ErrShort},
		{"all of the header wrong", magic + "00000008 0000000000000000 0000000000000000 0000000b 00000001", api.ErrClient},
		{"the client 2^32 - 1", magic + "ffffffff 0000000000000005 0000000000000002 00000001 00000000", api.ErrClient},
		{"all but the client wrong", magic + "00000007 0000000000000000 0000000000000000 0000000b 00000001", api.ErrSeq},
		{"epoch, op and status wrong", magic + "00000007 0000000000000001 0000000000000000 0000000b 00000001", api.ErrEra},
		{"op and status wrong", magic + "00000007 0000000000000001 0000000000000001 0000000b 00000001", api.ErrOp},
		{"a status wrong, no fields", head + "00000001 00000001", api.ErrStatus},
		{"a status that is 0 in its lower half", head + "00000001 00010000", api.ErrStatus},
		{"no fields", head + "00000001 00000000", api.ErrShort},
		{"fields behind a status", head + "00000006 00000079 00000000", api.ErrRest},
		{"a List of 17 that is not there", head + "0000000a 00000000 00000011", api.ErrField},
		{"a List of 2^32 - 1", head + "0000000a 00000000 ffffffff 00000001 61", api.ErrField},
		{"a List of 16 that is not there", head + "0000000a 00000000 00000010", api.ErrShort},
		{"a List whose number is cut off", head + "0000000a 00000000 000000", api.ErrShort},
		{"a name of 24 bytes", head + "0000000a 00000000 00000001 00000018" + strings.Repeat("61", 24) + "0000000000000101 00000001 00000000", api.ErrLong},
		{"no name, and a flag of 2", head + "0000000a 00000000 00000001 00000000 0000000000000101 00000001 00000002", api.ErrFlag},
		{"no name, and a flag, and more", head + "0000000a 00000000 00000001 00000000 0000000000000101 00000001 00000001 00", api.ErrRest},
		{"no name", head + "0000000a 00000000 00000001 00000000 0000000000000101 00000001 00000001", api.ErrField},
		{"no List and More", head + "0000000a 00000000 00000000 00000001", api.ErrField},
		{"an id 0 and no Data", head + "00000003 00000000 0000000000000000 00000001 00000000 0000000000000000", api.ErrShort},
		{"an id 0 and a length of 1025", head + "00000003 00000000 0000000000000000 00000001 00000000 0000000000000000 00000401", api.ErrLong},
		{"an id above 2^63", head + "00000002 00000000 ffffffffffffffff 00000001 00000000 0000000000000000", api.ErrWide},
		{"an id of 2^63 - 1", head + "00000002 00000000 7fffffffffffffff 00000001 00000000 0000000000000000", api.ErrField},
	} {
		refused(t, c.what, summed(fromHex(t, c.h)), api.ErrMagic, c.want)
	}
}

func TestP4_4BytesWithoutARule(t *testing.T) {
	source := rand.New(rand.NewSource(44))
	all := unsummed()
	for range 60000 {
		b := slices.Clone(all[source.Intn(len(all))])
		for range 1 + source.Intn(4) {
			b[source.Intn(len(b))] = byte(source.Intn(256) * source.Intn(2))
		}
		decodesAsWords(t, summed(b))
	}
	for range 2000 {
		b := make([]byte, source.Intn(1500))
		source.Read(b)
		decodesAsWords(t, b)
		decodesAsWords(t, summed(append([]byte("ANQ1"), b...)))
		decodesAsWords(t, summed(append([]byte("ANR1"), b...)))
	}
}
