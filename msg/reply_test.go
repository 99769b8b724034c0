package msg_test

import (
	"math"
	"slices"
	"testing"

	"annex/api"
	"annex/msg"
)

// replyFields are the document's table: the fields of a reply with Status 0 by operation.
var replyFields = map[int][]string{
	1: {"Attr"}, 2: {"Attr"}, 3: {"Attr", "Data"}, 4: {"Attr"}, 5: {"Attr"}, 6: nil, 7: {"Attr"}, 8: nil, 9: nil, 10: {"List", "More"},
}

// replyHeadByWords says the errors 1 to 5 of P4.2.
func replyHeadByWords(r api.Reply) api.Errno {
	if r.Client < 0 || r.Client > 7 {
		return api.ErrClient
	}
	if r.Seq < 1 || r.Seq > mostNumber {
		return api.ErrSeq
	}
	if r.Epoch < 1 || r.Epoch > mostNumber {
		return api.ErrEra
	}
	if r.Op < 1 || r.Op > 10 {
		return api.ErrOp
	}
	if !slices.Contains(statuses(), r.Status) {
		return api.ErrStatus
	}
	return api.OK
}

func attrByWords(op int, a api.Attr) bool {
	allowed := []int{1, 2}
	if op == 3 || op == 4 || op == 5 {
		allowed = []int{1}
	}
	if op == 7 {
		allowed = []int{2}
	}
	size := a.Size >= 0 && a.Size <= 69632
	if a.Kind == 2 {
		size = a.Size >= 0 && a.Size <= 8160 && a.Size%32 == 0
	}
	return idByWords(a.Id) && slices.Contains(allowed, a.Kind) && size && a.Change >= 0 && a.Change <= mostNumber
}

func listByWords(list []api.Entry) bool {
	for i, e := range list {
		if !nameByWords(e.Name) || !idByWords(e.Id) || e.Kind != 1 && e.Kind != 2 {
			return false
		}
		if i > 0 && slices.Compare([]byte(list[i-1].Name), []byte(e.Name)) >= 0 {
			return false
		}
	}
	return len(list) <= 16
}

// replyByWords says all of P4.2.
func replyByWords(r api.Reply) api.Errno {
	if code := replyHeadByWords(r); code != api.OK {
		return code
	}
	has := replyFields[r.Op]
	if r.Status != 0 {
		has = nil
	}
	for field, is := range map[string]struct{ zero, good bool }{
		"Attr": {r.Attr == api.Attr{}, attrByWords(r.Op, r.Attr)},
		"Data": {len(r.Data) == 0, len(r.Data) <= 1024},
		"List": {len(r.List) == 0, listByWords(r.List)},
		"More": {!r.More, !r.More || len(r.List) > 0},
	} {
		if slices.Contains(has, field) && !is.good || !slices.Contains(has, field) && !is.zero {
			return api.ErrField
		}
	}
	return api.OK
}

func checkReply(t *testing.T, r api.Reply, want api.Errno) {
	t.Helper()
	if got := msg.CheckReply(r); got != want {
		t.Fatalf("CheckReply(%s) = %d, want %d", told(r), got, want)
	}
}

// lists has lists at the edges, good ones and wrong ones.
func lists() [][]api.Entry {
	one := func(name string, id, kind int) []api.Entry { return []api.Entry{{Name: name, Id: id, Kind: kind}} }
	pair := func(first, second string) []api.Entry {
		return []api.Entry{{Name: first, Id: 300, Kind: 1}, {Name: second, Id: 299, Kind: 2}}
	}
	all := [][]api.Entry{nil, {}, entries(1), entries(2), entries(15), entries(16), entries(17), entries(100)}
	for _, s := range texts {
		all = append(all, one(s, 257, 1))
	}
	for _, x := range ids {
		all = append(all, one("a", x, 2))
	}
	for _, x := range kinds {
		all = append(all, one("a", 257, x))
	}
	for _, p := range [][2]string{{"a", "b"}, {"b", "a"}, {"a", "a"}, {"a", "ab"}, {"ab", "a"}, {"B", "a"}, {"a", "B"}, {"\x7f", "\x80"}, {"\x80", "\x7f"}, {"\xff", "é"}, {"z", "é"}, {"a", ""}, {"", "a"}, {"a", "b/c"}} {
		all = append(all, pair(p[0], p[1]))
	}
	for i := range 16 {
		for _, spoilt := range []api.Entry{{}, {Name: "a", Id: 1, Kind: 1}, {Name: "z", Id: 1, Kind: 1}} {
			list := entries(16)
			list[i] = spoilt
			all = append(all, list)
		}
		list := entries(16)
		list[i].Id = 0
		all = append(all, list)
		list = entries(16)
		list[i].Kind = 3
		all = append(all, list)
		list = entries(16)
		list[i].Name += "n"
		all = append(all, list)
	}
	return all
}

// replyEdits has each field with each of its edges.
func replyEdits() []func(*api.Reply) {
	var all []func(*api.Reply)
	for _, x := range ids {
		all = append(all, func(r *api.Reply) { r.Attr.Id = x })
	}
	for _, x := range kinds {
		all = append(all, func(r *api.Reply) { r.Attr.Kind = x })
	}
	for _, x := range sizes {
		all = append(all, func(r *api.Reply) { r.Attr.Size = x })
	}
	for _, x := range numbers {
		all = append(all, func(r *api.Reply) { r.Attr.Change = x })
	}
	for _, n := range lengths {
		d := filled(n)
		all = append(all, func(r *api.Reply) { r.Data = d })
	}
	for _, list := range lists() {
		all = append(all, func(r *api.Reply) { r.List = list })
	}
	return append(all, func(r *api.Reply) { r.More = true }, func(r *api.Reply) { r.More = false }, func(r *api.Reply) { r.Status = api.ErrStale }, func(r *api.Reply) { r.Status = 0 })
}

func TestP4_2Examples(t *testing.T) {
	file := api.Attr{Id: 257, Kind: 1, Size: 5, Change: 3}
	for _, c := range []struct {
		r    api.Reply
		want api.Errno
	}{
		{api.Reply{Seq: 1, Epoch: 1, Op: api.Lookup, Attr: file}, api.OK},
		{api.Reply{Seq: 1, Epoch: 0, Op: api.Lookup, Attr: file}, api.ErrEra},
		{api.Reply{Seq: 1, Epoch: 1, Op: api.Remove, Status: 1}, api.ErrStatus},
		{api.Reply{Seq: 1, Epoch: 1, Op: api.Lookup, Status: api.ErrStale, Attr: file}, api.ErrField},
		{api.Reply{Seq: 1, Epoch: 1, Op: api.Mkdir, Attr: file}, api.ErrField},
		{api.Reply{Seq: 1, Epoch: 1, Op: api.Readdir, More: true}, api.ErrField},
		{api.Reply{Seq: 1, Epoch: 1, Op: api.Readdir, List: []api.Entry{{Name: "b", Id: 1, Kind: 1}, {Name: "a", Id: 1, Kind: 1}}}, api.ErrField},
		{api.Reply{Seq: 1, Epoch: 1, Op: api.Readdir, List: []api.Entry{{Name: "a", Id: 1, Kind: 1}, {Name: "b", Id: 1, Kind: 1}}}, api.OK},
	} {
		checkReply(t, c.r, c.want)
	}
}

func TestP4_2Valid(t *testing.T) {
	seen := map[int]bool{}
	for _, r := range replies() {
		checkReply(t, r, api.OK)
		if r.Status == 0 {
			seen[r.Op] = true
		}
	}
	if len(seen) != 10 {
		t.Errorf("%d operations are tried", len(seen))
	}
}

func TestP4_2EachHeader(t *testing.T) {
	codes := []api.Errno{math.MinInt, -1, 0, 1, api.ErrStale, api.ErrEpoch, api.ErrEpochs, 1<<32 + api.ErrStale, math.MaxInt}
	for _, client := range clients {
		for _, seq := range numbers {
			for _, epoch := range numbers {
				for _, op := range ops {
					for _, status := range codes {
						r := api.Reply{Client: client, Seq: seq, Epoch: epoch, Op: op, Status: status, More: true}
						want := replyHeadByWords(r)
						if want == api.OK {
							want = api.ErrField
						}
						if got := msg.CheckReply(r); got != want {
							t.Fatalf("CheckReply(%+v) = %d, want %d", r, got, want)
						}
					}
				}
			}
		}
	}
}

func TestP4_2EachStatus(t *testing.T) {
	for op := 1; op <= 10; op++ {
		for status := api.Errno(-5); status < 300; status++ {
			r := api.Reply{Seq: 1, Epoch: 1, Op: op, Status: status}
			checkReply(t, r, replyByWords(r))
		}
	}
}

// TestP4_2EachField edits one field and two fields of each reply, also under another operation.
func TestP4_2EachField(t *testing.T) {
	edits := replyEdits()
	for _, sample := range replies() {
		for op := 1; op <= 10; op++ {
			for _, first := range edits {
				r := sample
				r.Op = op
				first(&r)
				checkReply(t, r, replyByWords(r))
			}
		}
		for _, first := range edits {
			for _, second := range edits {
				r := sample
				first(&r)
				second(&r)
				checkReply(t, r, replyByWords(r))
			}
		}
	}
}

func TestP4_2EachAttr(t *testing.T) {
	for op := 1; op <= 10; op++ {
		for _, kind := range kinds {
			for _, size := range sizes {
				for _, change := range numbers {
					r := api.Reply{Seq: 1, Epoch: 1, Op: op, Attr: api.Attr{Id: 257, Kind: kind, Size: size, Change: change}}
					checkReply(t, r, replyByWords(r))
				}
			}
		}
	}
}

func TestP4_2EachDirectorySize(t *testing.T) {
	for size := -70; size < 9000; size++ {
		r := api.Reply{Seq: 1, Epoch: 1, Op: api.Mkdir, Attr: api.Attr{Id: 257, Kind: 2, Size: size}}
		checkReply(t, r, replyByWords(r))
	}
}

func TestP4_2MoreOnlyWithAList(t *testing.T) {
	for n := range 17 {
		want := api.OK
		if n == 0 {
			want = api.ErrField
		}
		checkReply(t, api.Reply{Seq: 1, Epoch: 1, Op: api.Readdir, List: entries(n), More: true}, want)
		checkReply(t, api.Reply{Seq: 1, Epoch: 1, Op: api.Readdir, List: entries(n)}, api.OK)
	}
}

func TestP4_2GreatInputs(t *testing.T) {
	const great = 1 << 20
	checkReply(t, api.Reply{Seq: 1, Epoch: 1, Op: api.Readdir, List: make([]api.Entry, great)}, api.ErrField)
	checkReply(t, api.Reply{Seq: 1, Epoch: 1, Op: api.Read, Attr: api.Attr{Id: 1, Kind: 1}, Data: make([]byte, great)}, api.ErrField)
}
