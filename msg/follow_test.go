package msg_test

import (
	"bytes"
	"slices"
	"testing"

	"annex/api"
	"annex/msg"
)

func fill(b []byte, x byte) {
	for i := range b {
		b[i] = x
	}
}

// roomy is b with spare room behind it, which is filled.
func roomy(b []byte) []byte {
	whole := slices.Concat(b, bytes.Repeat([]byte{0xdd}, 64))
	return whole[:len(b)]
}

// spare tells whether what roomy laid down is all there.
func spare(b []byte) bool {
	return bytes.Equal(b[len(b):len(b)+64], bytes.Repeat([]byte{0xdd}, 64))
}

func TestP4_6EncodeLeavesWhatItIsGiven(t *testing.T) {
	data := roomy(filled(10))
	write := api.Request{Seq: 1, Op: api.Write, Id: 256, Data: data}
	read := api.Reply{Seq: 1, Epoch: 1, Op: api.Read, Attr: api.Attr{Id: 256, Kind: 1}, Data: data}
	first, second := encodeRequest(t, write), encodeReply(t, read)
	wantFirst, wantSecond := slices.Clone(first), slices.Clone(second)
	if !bytes.Equal(data, filled(10)) || !spare(data) {
		t.Errorf("Encode changed Data: %x", data[:cap(data)])
	}
	fill(data[:cap(data)], 0xee)
	if !bytes.Equal(first, wantFirst) || !bytes.Equal(second, wantSecond) {
		t.Errorf("a datagram shows what became of Data: %x, %x", first, second)
	}
	fill(first[:cap(first)], 0x11)
	if data[0] != 0xee || !bytes.Equal(second, wantSecond) {
		t.Errorf("a datagram's memory is somebody else's too")
	}
}

func TestP4_6EncodeLeavesALongList(t *testing.T) {
	whole := entries(16)
	list := whole[:5]
	b := encodeReply(t, api.Reply{Seq: 1, Epoch: 1, Op: api.Readdir, List: list})
	want := slices.Clone(b)
	if !slices.Equal(whole, entries(16)) {
		t.Errorf("EncodeReply changed the List: %v", whole)
	}
	clear(whole)
	if !bytes.Equal(b, want) {
		t.Errorf("a datagram shows what became of the List: %x", b)
	}
}

func TestP4_6CheckLeavesWhatItIsGiven(t *testing.T) {
	data, list := roomy(filled(2000)), entries(20)
	msg.CheckRequest(api.Request{Seq: 1, Op: api.Write, Id: 256, Data: data})
	msg.CheckReply(api.Reply{Seq: 1, Epoch: 1, Op: api.Read, Attr: api.Attr{Id: 256, Kind: 1}, Data: data})
	msg.CheckReply(api.Reply{Seq: 1, Epoch: 1, Op: api.Readdir, List: list[:16]})
	msg.CheckReply(api.Reply{Seq: 1, Epoch: 1, Op: api.Readdir, List: list})
	if !bytes.Equal(data, filled(2000)) || !spare(data) || !slices.Equal(list, entries(20)) {
		t.Errorf("a Check changed what it was given")
	}
}

func TestP4_6DatagramsAreTwoLists(t *testing.T) {
	for _, r := range requests() {
		first, second := encodeRequest(t, r), encodeRequest(t, r)
		want := slices.Clone(second)
		fill(first[:cap(first)], 0x11)
		if !bytes.Equal(second, want) || !bytes.Equal(encodeRequest(t, r), want) {
			t.Errorf("two datagrams share memory: %x", second)
		}
	}
	for _, r := range replies() {
		first, second := encodeReply(t, r), encodeReply(t, r)
		want := slices.Clone(second)
		fill(first[:cap(first)], 0x11)
		if !bytes.Equal(second, want) || !bytes.Equal(encodeReply(t, r), want) {
			t.Errorf("two datagrams share memory: %x", second)
		}
	}
}

func TestP4_6DecodeOfRequests(t *testing.T) {
	for _, want := range requests() {
		b := roomy(encodeRequest(t, want))
		whole := slices.Clone(b)
		first, _ := msg.DecodeRequest(b)
		second, _ := msg.DecodeRequest(b)
		if !bytes.Equal(b, whole) || !spare(b) {
			t.Errorf("DecodeRequest changed its bytes: %x", b)
		}
		fill(first.Data[:cap(first.Data)], 0x11)
		if !sameRequest(second, want) || !bytes.Equal(b, whole) || !spare(b) {
			t.Errorf("Data shares memory: %s", told(second))
		}
		fill(b[:cap(b)], 0xee)
		if !sameRequest(second, want) {
			t.Errorf("a request shows what became of its datagram: %s", told(second))
		}
	}
}

func TestP4_6DecodeOfReplies(t *testing.T) {
	for _, want := range replies() {
		b := roomy(encodeReply(t, want))
		whole := slices.Clone(b)
		first, _ := msg.DecodeReply(b)
		second, _ := msg.DecodeReply(b)
		if !bytes.Equal(b, whole) || !spare(b) {
			t.Errorf("DecodeReply changed its bytes: %x", b)
		}
		fill(first.Data[:cap(first.Data)], 0x11)
		for i := range first.List[:cap(first.List)] {
			first.List[:cap(first.List)][i] = api.Entry{Name: "changed"}
		}
		if !sameReply(second, want) || !bytes.Equal(b, whole) || !spare(b) {
			t.Errorf("Data or List share memory: %s", told(second))
		}
		fill(b[:cap(b)], 0xee)
		if !sameReply(second, want) {
			t.Errorf("a reply shows what became of its datagram: %s", told(second))
		}
	}
}

// eachValid hands over many valid messages with their datagrams: the samples, and the samples with one field edited.
func eachValid(t *testing.T, request func(api.Request, []byte), reply func(api.Reply, []byte)) {
	t.Helper()
	for _, sample := range requests() {
		heads := []func(*api.Request){func(*api.Request) {}, func(r *api.Request) { r.Client++; r.Client %= 8 }, func(r *api.Request) { r.Epoch /= 2 }, func(r *api.Request) { r.Ack /= 2 }}
		for _, edit := range append(requestEdits(), heads...) {
			r := sample
			edit(&r)
			if b, code := msg.EncodeRequest(r); code == api.OK {
				request(r, b)
			}
		}
	}
	for _, sample := range replies() {
		heads := []func(*api.Reply){func(*api.Reply) {}, func(r *api.Reply) { r.Client++; r.Client %= 8 }, func(r *api.Reply) { r.Seq = 9 }, func(r *api.Reply) { r.Epoch++ }}
		for _, edit := range append(replyEdits(), heads...) {
			r := sample
			edit(&r)
			if b, code := msg.EncodeReply(r); code == api.OK {
				reply(r, b)
			}
		}
	}
}

func TestP4_7NoneIsBoth(t *testing.T) {
	eachValid(t, func(r api.Request, b []byte) {
		if _, code := msg.DecodeReply(b); code != api.ErrMagic {
			t.Errorf("DecodeReply of the request %s = %d", told(r), code)
		}
	}, func(r api.Reply, b []byte) {
		if _, code := msg.DecodeRequest(b); code != api.ErrMagic {
			t.Errorf("DecodeRequest of the reply %s = %d", told(r), code)
		}
	})
}

func TestP4_7UnlikeMessagesUnlikeDatagrams(t *testing.T) {
	requestOf, replyOf := map[string]api.Request{}, map[string]api.Reply{}
	eachValid(t, func(r api.Request, b []byte) {
		if other, ok := requestOf[string(b)]; ok && !sameRequest(r, other) {
			t.Errorf("%s and %s are both %x", told(r), told(other), b)
		}
		requestOf[string(b)] = r
	}, func(r api.Reply, b []byte) {
		if other, ok := replyOf[string(b)]; ok && !sameReply(r, other) {
			t.Errorf("%s and %s are both %x", told(r), told(other), b)
		}
		if _, ok := requestOf[string(b)]; ok {
			t.Errorf("%s is also a request", told(r))
		}
		replyOf[string(b)] = r
	})
	if len(requestOf) < 100 || len(replyOf) < 100 {
		t.Errorf("only %d requests and %d replies are tried", len(requestOf), len(replyOf))
	}
}

// oneByteChanged tries each place of a datagram with each other byte.
func oneByteChanged(t *testing.T, b []byte) {
	t.Helper()
	spoilt := slices.Clone(b)
	for at, was := range b {
		for x := range 256 {
			if byte(x) == was {
				continue
			}
			spoilt[at] = byte(x)
			if r, code := msg.DecodeRequest(spoilt); code == api.OK || !sameRequest(r, api.Request{}) {
				t.Fatalf("%x with %02x at %d is the request %s, %d", b, x, at, told(r), code)
			}
			if r, code := msg.DecodeReply(spoilt); code == api.OK || !sameReply(r, api.Reply{}) {
				t.Fatalf("%x with %02x at %d is the reply %s, %d", b, x, at, told(r), code)
			}
		}
		spoilt[at] = was
	}
}

func TestP4_8OneByteChanged(t *testing.T) {
	for _, r := range requests() {
		oneByteChanged(t, encodeRequest(t, r))
	}
	for _, r := range replies() {
		oneByteChanged(t, encodeReply(t, r))
	}
}
