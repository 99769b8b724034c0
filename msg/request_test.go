package msg_test

import (
	"bytes"
	"math"
	"slices"
	"strings"
	"testing"

	"annex/api"
	"annex/msg"
)

// requestFields are the document's table: the fields of a request by operation.
var requestFields = map[int][]string{
	1: {"Path"}, 2: {"Id"}, 3: {"Id", "Off", "Len"}, 4: {"Id", "Off", "Data"}, 5: {"Id", "Name"}, 6: {"Id", "Name"},
	7: {"Id", "Name"}, 8: {"Id", "Name"}, 9: {"Id", "Name", "Id2", "Name2"}, 10: {"Id", "Name", "Len"},
}

func nameByWords(s string) bool {
	return len(s) >= 1 && len(s) <= 23 && s != "." && s != ".." && !strings.ContainsAny(s, "/\x00")
}

func pathByWords(s string) bool {
	if s == "/" {
		return true
	}
	parts := strings.Split(s, "/")
	return len(parts) >= 2 && len(parts) <= 17 && parts[0] == "" && !slices.ContainsFunc(parts[1:], func(s string) bool { return !nameByWords(s) })
}

func idByWords(x int) bool { return x > 0 && x < 1<<49 }

// requestHeadByWords says the errors 1 to 4 of P4.1.
func requestHeadByWords(r api.Request) api.Errno {
	if r.Client < 0 || r.Client > 7 {
		return api.ErrClient
	}
	if r.Seq < 1 || r.Seq > mostNumber || r.Ack < 0 || r.Ack >= r.Seq {
		return api.ErrSeq
	}
	if r.Epoch < 0 || r.Epoch > mostNumber {
		return api.ErrEra
	}
	if r.Op < 1 || r.Op > 10 {
		return api.ErrOp
	}
	return api.OK
}

// requestByWords says all of P4.1.
func requestByWords(r api.Request) api.Errno {
	if code := requestHeadByWords(r); code != api.OK {
		return code
	}
	mostLen := map[int]int{3: 1024, 10: 16}[r.Op]
	for field, is := range map[string]struct{ zero, good bool }{
		"Id":    {r.Id == 0, idByWords(r.Id)},
		"Id2":   {r.Id2 == 0, idByWords(r.Id2)},
		"Off":   {r.Off == 0, r.Off >= 0 && r.Off <= 69632},
		"Len":   {r.Len == 0, r.Len >= 1 && r.Len <= mostLen},
		"Path":  {r.Path == "", pathByWords(r.Path)},
		"Name":  {r.Name == "", nameByWords(r.Name) || r.Op == 10 && r.Name == ""},
		"Name2": {r.Name2 == "", nameByWords(r.Name2)},
		"Data":  {len(r.Data) == 0, len(r.Data) >= 1 && len(r.Data) <= 1024},
	} {
		if slices.Contains(requestFields[r.Op], field) && !is.good || !slices.Contains(requestFields[r.Op], field) && !is.zero {
			return api.ErrField
		}
	}
	return api.OK
}

func checkRequest(t *testing.T, r api.Request, want api.Errno) {
	t.Helper()
	if got := msg.CheckRequest(r); got != want {
		t.Fatalf("CheckRequest(%s) = %d, want %d", told(r), got, want)
	}
}

// requestEdits has each field with each of its edges.
func requestEdits() []func(*api.Request) {
	var all []func(*api.Request)
	for _, x := range ids {
		all = append(all, func(r *api.Request) { r.Id = x }, func(r *api.Request) { r.Id2 = x })
	}
	for _, x := range offs {
		all = append(all, func(r *api.Request) { r.Off = x })
	}
	for _, x := range lens {
		all = append(all, func(r *api.Request) { r.Len = x })
	}
	for _, s := range paths {
		all = append(all, func(r *api.Request) { r.Path = s })
	}
	for _, s := range texts {
		all = append(all, func(r *api.Request) { r.Name = s }, func(r *api.Request) { r.Name2 = s })
	}
	for _, n := range lengths {
		d := filled(n)
		all = append(all, func(r *api.Request) { r.Data = d })
	}
	return all
}

func TestP4_1Examples(t *testing.T) {
	head := api.Request{Client: 1, Seq: 5, Ack: 4, Epoch: 2}
	with := func(op int, edit func(r *api.Request)) api.Request {
		r := head
		r.Op = op
		edit(&r)
		return r
	}
	for _, c := range []struct {
		r    api.Request
		want api.Errno
	}{
		{with(api.Getattr, func(r *api.Request) { r.Id = 256 }), api.OK},
		{with(api.Getattr, func(r *api.Request) { r.Id, r.Client = 256, 8 }), api.ErrClient},
		{with(api.Getattr, func(r *api.Request) { r.Id, r.Seq = 256, 0 }), api.ErrSeq},
		{with(api.Getattr, func(r *api.Request) { r.Id, r.Ack = 256, 5 }), api.ErrSeq},
		{with(11, func(r *api.Request) { r.Id = 256 }), api.ErrOp},
		{with(api.Getattr, func(r *api.Request) { r.Id, r.Len = 256, 1 }), api.ErrField},
		{with(api.Read, func(r *api.Request) { r.Id = 256 }), api.ErrField},
		{with(api.Read, func(r *api.Request) { r.Id, r.Len = 256, 1025 }), api.ErrField},
		{with(api.Readdir, func(r *api.Request) { r.Id, r.Len = 256, 16 }), api.OK},
		{with(api.Lookup, func(r *api.Request) { r.Path = "a" }), api.ErrField},
		{with(api.Lookup, func(r *api.Request) { r.Path = "/" }), api.OK},
		{with(api.Rename, func(r *api.Request) { r.Id, r.Name, r.Id2 = 256, "a", 256 }), api.ErrField},
	} {
		checkRequest(t, c.r, c.want)
	}
}

func TestP4_1Valid(t *testing.T) {
	seen := map[int]bool{}
	for _, r := range requests() {
		checkRequest(t, r, api.OK)
		seen[r.Op] = true
	}
	if len(seen) != 10 {
		t.Errorf("%d operations are tried", len(seen))
	}
}

func TestP4_1EachHeader(t *testing.T) {
	for _, client := range clients {
		for _, seq := range numbers {
			for _, ack := range numbers {
				for _, epoch := range numbers {
					for _, op := range ops {
						r := api.Request{Client: client, Seq: seq, Ack: ack, Epoch: epoch, Op: op}
						want := requestHeadByWords(r)
						if want == api.OK {
							want = api.ErrField
						}
						if got := msg.CheckRequest(r); got != want {
							t.Fatalf("CheckRequest(%+v) = %d, want %d", r, got, want)
						}
					}
				}
			}
		}
	}
}

func TestP4_1AckUpToSeq(t *testing.T) {
	for _, seq := range []int{1, 2, 5, mostNumber} {
		for _, c := range []struct {
			ack  int
			want api.Errno
		}{{-1, api.ErrSeq}, {0, api.OK}, {seq - 1, api.OK}, {seq, api.ErrSeq}, {seq + 1, api.ErrSeq}, {math.MinInt, api.ErrSeq}} {
			checkRequest(t, api.Request{Seq: seq, Ack: c.ack, Op: api.Getattr, Id: 256}, c.want)
		}
	}
}

// TestP4_1EachField edits one field and two fields of each request, also under another operation.
func TestP4_1EachField(t *testing.T) {
	edits := requestEdits()
	for _, sample := range requests() {
		for op := 1; op <= 10; op++ {
			for _, first := range edits {
				r := sample
				r.Op = op
				first(&r)
				checkRequest(t, r, requestByWords(r))
			}
		}
		for _, first := range edits {
			for _, second := range edits {
				r := sample
				first(&r)
				second(&r)
				checkRequest(t, r, requestByWords(r))
			}
		}
	}
}

func TestP4_1EachFieldAlone(t *testing.T) {
	for op := 0; op <= 11; op++ {
		for _, edit := range requestEdits() {
			r := api.Request{Seq: 1, Op: op}
			edit(&r)
			checkRequest(t, r, requestByWords(r))
		}
	}
}

func TestP4_1FieldsComeLast(t *testing.T) {
	bad := api.Request{Client: 9, Seq: -1, Ack: -1, Epoch: -1, Op: 12, Id: -1, Id2: -1, Off: -1, Len: -1, Path: "x", Name: "/", Name2: "/", Data: []byte{1}}
	for _, c := range []struct {
		mend func()
		want api.Errno
	}{
		{func() {}, api.ErrClient},
		{func() { bad.Client = 0 }, api.ErrSeq},
		{func() { bad.Seq = 1 }, api.ErrSeq},
		{func() { bad.Ack = 0 }, api.ErrEra},
		{func() { bad.Epoch = 0 }, api.ErrOp},
		{func() { bad.Op = 1 }, api.ErrField},
	} {
		c.mend()
		checkRequest(t, bad, c.want)
	}
}

func TestP4_1GreatInputs(t *testing.T) {
	const great = 1 << 22
	text := strings.Repeat("/a", great)
	checkRequest(t, api.Request{Seq: 1, Op: api.Lookup, Path: text}, api.ErrField)
	checkRequest(t, api.Request{Seq: 1, Op: api.Create, Id: 256, Name: text}, api.ErrField)
	checkRequest(t, api.Request{Seq: 1, Op: api.Write, Id: 256, Data: bytes.Repeat([]byte{1}, great)}, api.ErrField)
}
