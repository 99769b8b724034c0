package tree_test

import (
	"fmt"
	"maps"
	"slices"
	"strings"
	"testing"

	"annex/api"
)

// plant is an inode of an image made by hand; what a directory holds is written as "name id", in the order of the contents.
type plant struct {
	id, kind int
	holds    []string
}

// planted is a ground with just these inodes, in their slots.
func planted(t *testing.T, list ...plant) *ground {
	t.Helper()
	m := newImage(t, shapeOf(12, 20000))
	for _, p := range list {
		var row []byte
		for _, text := range p.holds {
			var name string
			var id int
			fmt.Sscan(text, &name, &id)
			row = append(row, entryBytes(name, id)...)
		}
		m.record(p.id&255, m.hold(api.Inode{Id: p.id, Kind: p.kind}, row))
	}
	return m.ground(t)
}

// TestP12_5NoInode: an entry leads to an id of which there is no inode, or to the root.
func TestP12_5NoInode(t *testing.T) {
	for _, id := range []int{777, 1, 255, 256, 512, 257 + 256, 258 + 512, 256 + 11, 256 + 12, 256 + 255, 1<<49 - 1} {
		entry := fmt.Sprint("m ", id)
		with := func() *ground {
			return planted(t, plant{256, 2, []string{"f 257", entry, "d 258", "z 259"}}, plant{257, 1, nil}, plant{258, 2, []string{"f 260", entry}}, plant{259, 2, nil}, plant{260, 1, nil})
		}
		for _, r := range []api.Request{
			look("/m"), look("/m/x"), look("/d/m"), op(api.Remove, 256, "m"), op(api.Remove, 258, "m"), op(api.Rmdir, 256, "m"), op(api.Rmdir, 258, "m"),
			move(256, "m", 256, "x"), move(256, "m", 259, "m"), move(256, "m", 256, "f"), move(256, "f", 256, "m"), move(256, "z", 256, "m"), move(258, "f", 256, "m"),
			list(256, "", 16), list(256, "", 3), list(256, "f", 1), list(258, "f", 1), move(256, "d", 256, "x"), move(256, "d", 258, "x"), move(256, "d", 259, "x"),
		} {
			with().fault(r, api.ErrTree)
		}
		for _, c := range []struct {
			r    api.Request
			want api.Errno
		}{
			{op(api.Create, 256, "m"), api.ErrExist}, {op(api.Mkdir, 258, "m"), api.ErrExist}, {move(256, "m", 256, "m"), api.OK}, {move(258, "m", 258, "m"), api.OK},
			{list(256, "", 2), api.OK}, {list(256, "m", 16), api.OK}, {list(258, "m", 1), api.OK}, {look("/f"), api.OK}, {look("/d/f"), api.OK}, {getattr(258), api.OK},
			{op(api.Remove, 256, "f"), api.OK}, {op(api.Rmdir, 256, "z"), api.OK}, {op(api.Rmdir, 256, "d"), api.ErrNotEmpty}, {op(api.Remove, 256, "d"), api.ErrIsDir},
			{op(api.Create, 256, "x"), api.OK}, {move(256, "f", 258, "x"), api.OK}, {move(256, "f", 258, "f"), api.OK}, {move(256, "z", 258, "z"), api.OK}, {move(256, "z", 259, "z"), api.ErrInside},
			{move(256, "m", 999, "x"), api.ErrStale}, {move(256, "m", 257, "x"), api.ErrNotDir}, {move(256, "f", 256, "d"), api.ErrIsDir}, {move(256, "z", 256, "d"), api.ErrNotEmpty},
		} {
			with().status(c.r, c.want)
		}
		p := with().ok(list(256, "", 2))
		is(t, "More, though it is not met", p.More, true)
	}
}

// rootless is a tree whose root has that record.
func rootless(t *testing.T, root api.Inode) *ground {
	t.Helper()
	m := newImage(t, shapeOf(12, 20000))
	m.record(0, root)
	m.record(1, m.hold(api.Inode{Id: 257, Kind: 2}, slices.Concat(entryBytes("f", 258), entryBytes("top", 256), entryBytes("e", 260))))
	m.record(2, api.Inode{Id: 258, Kind: 1})
	m.record(3, api.Inode{Id: 259, Kind: 2})
	m.record(4, api.Inode{Id: 260, Kind: 2})
	return m.ground(t)
}

// roots are records that no root has, with what is told of them.
var roots = map[api.Errno][]api.Inode{
	api.ErrTree:   {{}, {Id: 256}, {Id: 512}, {Id: 512, Kind: 2}, {Id: 256, Kind: 1}, {Id: 512, Kind: 1}, {Id: 256, Kind: 1, Size: 64}},
	api.ErrRecord: {{Id: 256, Kind: 3}, {Id: 0, Kind: 2}, {Id: 256, Size: 1}, {Id: 256, Kind: 2, Size: 70000}, {Id: 256, Kind: 1, Indirect: 1}},
}

// TestP12_5NoRoot: the root's id is asked for, and it is not there or no directory.
func TestP12_5NoRoot(t *testing.T) {
	for want, records := range roots {
		for _, root := range records {
			g := rootless(t, root)
			for _, r := range []api.Request{
				look("/"), look("/x"), look("/x/y"), getattr(256), read(256, 0, 1), write(256, 0, "x"), write(256, 69632, "x"), op(api.Create, 256, "x"), op(api.Remove, 256, "x"), op(api.Mkdir, 256, "x"), op(api.Rmdir, 256, "x"),
				list(256, "", 1), move(256, "x", 256, "x"), move(256, "x", 257, "x"), move(256, "x", 999, "x"), move(256, "x", 258, "x"), move(257, "f", 256, "x"), move(257, "x", 256, "x"),
			} {
				g.fault(r, want)
			}
		}
	}
}

// TestP12_5RootNotMet: whatever the root is, other ids are as they are; an entry that leads to the root is told without a look at its record.
func TestP12_5RootNotMet(t *testing.T) {
	good := []api.Inode{{Id: 256, Kind: 2}}
	for _, records := range append(slices.Collect(maps.Values(roots)), good) {
		for _, root := range records {
			for _, c := range []struct {
				r    api.Request
				want api.Errno
			}{
				{getattr(257), api.OK}, {read(258, 0, 1), api.OK}, {op(api.Remove, 257, "f"), api.OK}, {op(api.Rmdir, 257, "e"), api.OK}, {move(257, "f", 257, "x"), api.OK}, {move(257, "f", 259, "f"), api.OK}, {move(257, "e", 259, "f"), api.OK},
				{list(257, "", 2), api.OK}, {move(999, "f", 256, "x"), api.ErrStale}, {move(258, "f", 256, "x"), api.ErrNotDir}, {op(api.Create, 257, "top"), api.ErrExist}, {move(257, "top", 257, "top"), api.OK},
			} {
				rootless(t, root).status(c.r, c.want)
			}
			for _, r := range []api.Request{
				op(api.Remove, 257, "top"), op(api.Rmdir, 257, "top"), move(257, "top", 257, "x"), move(257, "top", 259, "x"), move(257, "f", 257, "top"), move(257, "e", 257, "top"), list(257, "", 3), list(257, "f", 1),
			} {
				rootless(t, root).fault(r, api.ErrTree)
			}
		}
	}
}

// TestP12_5SlotOfTheRoot: what stands in the root's slot under another id is an inode like any other.
func TestP12_5SlotOfTheRoot(t *testing.T) {
	with := func() *ground {
		return planted(t, plant{512, 2, []string{"f 257"}}, plant{257, 1, nil}, plant{258, 2, []string{"d 512", "f 257"}})
	}
	with().attr(getattr(512), api.Attr{Id: 512, Kind: 2, Size: 32})
	with().status(op(api.Remove, 512, "f"), api.OK)
	with().status(move(258, "d", 258, "x"), api.OK)
	with().status(move(258, "d", 512, "x"), api.ErrInside)
	with().status(list(258, "", 2), api.OK)
	with().fault(look("/f"), api.ErrTree)
}

// TestP12_5Search: RENAME of a directory looks at all entries of all directories below it. The cases have the moving directory "m" (257) in the root, and go to the root's "x" (OK where nothing is wrong) or into an inside.
func TestP12_5Search(t *testing.T) {
	const bent = ". 1" // no name: the contents may not be
	broken := plant{266, 3, nil}
	for what, c := range map[string]struct {
		m    []string
		rest []plant
		to   int
		want api.Errno
	}{
		"nothing is wrong":                              {[]string{"a 258", "b 259"}, []plant{{258, 2, []string{"c 260"}}, {259, 1, nil}, {260, 2, nil}}, 256, api.OK},
		"a ring of itself":                              {[]string{"a 257"}, nil, 256, api.ErrTree},
		"a ring of two":                                 {[]string{"a 258"}, []plant{{258, 2, []string{"b 257"}}}, 256, api.ErrTree},
		"a ring below":                                  {[]string{"a 258"}, []plant{{258, 2, []string{"b 259"}}, {259, 2, []string{"c 258"}}}, 256, api.ErrTree},
		"a directory twice in one":                      {[]string{"a 258", "b 258"}, []plant{{258, 2, nil}}, 256, api.ErrTree},
		"a directory twice in two":                      {[]string{"a 258", "b 259"}, []plant{{258, 2, []string{"c 260"}}, {259, 2, []string{"d 260"}}, {260, 2, nil}}, 256, api.ErrTree},
		"a file twice":                                  {[]string{"a 258", "b 258", "c 259"}, []plant{{258, 1, nil}, {259, 2, []string{"d 258"}}}, 256, api.OK},
		"an inside, searched to its end":                {[]string{"a 258", "b 999"}, []plant{{258, 2, nil}}, 258, api.ErrTree},
		"itself, searched to its end":                   {[]string{"a 258", "b 999"}, []plant{{258, 2, nil}}, 257, api.ErrTree},
		"an inside deep below":                          {[]string{"a 258"}, []plant{{258, 2, []string{"b 259"}}, {259, 2, []string{"c 260"}}, {260, 2, nil}}, 260, api.ErrInside},
		"an inside that is met twice":                   {[]string{"a 258", "b 258"}, []plant{{258, 2, nil}}, 258, api.ErrTree},
		"by names: a record ahead of a hole":            {[]string{"b 999", "a 266"}, []plant{broken}, 256, api.ErrRecord},
		"by names: a hole ahead of a record":            {[]string{"b 266", "a 999"}, []plant{broken}, 256, api.ErrTree},
		"all entries ahead of the next directory":       {[]string{"a 258", "b 999"}, []plant{{258, 2, []string{bent}}}, 256, api.ErrTree},
		"twice, ahead of a look into it":                {[]string{"a 258", "b 258"}, []plant{{258, 2, []string{bent}}}, 256, api.ErrTree},
		"the first directory first":                     {[]string{"a 258", "b 259"}, []plant{{258, 2, []string{bent}}, {259, 2, []string{"c 999"}}}, 256, api.ErrDirBent},
		"the first directory first, by names":           {[]string{"b 258", "a 259"}, []plant{{258, 2, []string{bent}}, {259, 2, []string{"c 999"}}}, 256, api.ErrTree},
		"in the order in which they are met":            {[]string{"a 258", "b 259"}, []plant{{258, 2, []string{"c 260"}}, {259, 2, []string{"d 999"}}, {260, 2, []string{bent}}}, 256, api.ErrTree},
		"in the order in which they are met, turned":    {[]string{"a 258", "b 259"}, []plant{{258, 2, []string{"c 260"}}, {259, 2, []string{bent}}, {260, 2, []string{"d 999"}}}, 256, api.ErrDirBent},
		"of two below, the one that was met first":      {[]string{"a 258", "b 259"}, []plant{{258, 2, []string{"z 260"}}, {259, 2, []string{"a 261"}}, {260, 2, []string{bent}}, {261, 2, []string{"d 999"}}}, 256, api.ErrDirBent},
		"contents that may not be, of what moves":       {[]string{bent}, nil, 256, api.ErrDirBent},
		"contents that may not be, and itself its goal": {[]string{bent}, nil, 257, api.ErrDirBent},
		"the root below":                                {[]string{"a 258"}, []plant{{258, 2, []string{"b 256"}}}, 256, api.ErrTree},
		"a record below":                                {[]string{"a 258"}, []plant{{258, 2, []string{"b 266"}}, broken}, 256, api.ErrRecord},
	} {
		g := planted(t, append(c.rest, plant{256, 2, []string{"m 257"}}, plant{257, 2, c.m})...)
		r := move(256, "m", c.to, "x")
		p, code := g.do(r)
		if code != c.want && p.Status != c.want || code != api.OK && p.Status != api.OK {
			t.Errorf("%s: the Status %d, the error %d, want %d", what, p.Status, code, c.want)
		}
		is(t, what+": a Status", p.Status != api.OK, c.want == api.ErrInside)
		own := planted(t, append(c.rest, plant{256, 2, []string{"m 257"}}, plant{257, 2, c.m})...)
		own.status(move(256, "m", 256, "m"), api.OK)
	}
}

// TestP12_5SearchAhead: the search comes ahead of a look at the new place, and behind the entry's own.
func TestP12_5SearchAhead(t *testing.T) {
	with := func(m ...string) *ground {
		return planted(t, plant{256, 2, []string{"m 257", "f 259", "d 258", "gone 999"}}, plant{257, 2, m}, plant{258, 2, []string{". 1"}}, plant{259, 1, nil})
	}
	with("a 999").fault(move(256, "m", 256, "f"), api.ErrTree)
	with("a 999").fault(move(256, "m", 258, "x"), api.ErrTree)
	with().fault(move(256, "m", 258, "x"), api.ErrDirBent)
	with().status(move(256, "m", 257, "gone"), api.ErrInside)
	with().fault(move(256, "m", 256, "gone"), api.ErrTree)
	with().status(move(256, "m", 256, "f"), api.ErrNotDir)
	with().status(move(256, "m", 256, "d"), api.ErrNotEmpty)
	with("a 257").fault(move(256, "m", 256, "f"), api.ErrTree)
	with().fault(move(258, "x", 256, "f"), api.ErrDirBent)
	with().status(move(256, "d", 256, "d"), api.OK)
	with().fault(move(256, "d", 256, "x"), api.ErrDirBent)
	with().status(move(258, "x", 999, "f"), api.ErrStale)
}

// TestP12_5TwoNames: an inode that two entries lead to: the words are followed all the same.
func TestP12_5TwoNames(t *testing.T) {
	g := planted(t, plant{256, 2, []string{"a 257", "b 257", "d 258", "e 258"}}, plant{257, 1, nil}, plant{258, 2, nil})
	g.ok(move(256, "a", 256, "b"))
	g.status(getattr(257), api.ErrStale)
	g.fault(look("/b"), api.ErrTree)
	g = planted(t, plant{256, 2, []string{"a 257", "b 257", "d 258", "e 258"}}, plant{257, 1, nil}, plant{258, 2, nil})
	g.ok(move(256, "d", 256, "e"))
	g.status(getattr(258), api.ErrStale)
	g.drop()
	g.ok(op(api.Remove, 256, "b"))
	g.fault(op(api.Remove, 256, "a"), api.ErrTree)
}

// TestP12_5Below: errors of the layers below where they are met, and Statuses ahead of them.
func TestP12_5Below(t *testing.T) {
	with := func(change func(m *image)) *ground {
		m := newImage(t, shapeOf(12, 20000))
		m.record(0, m.hold(api.Inode{Id: 256, Kind: 2}, slices.Concat(entryBytes("f", 257), entryBytes("d", 258), entryBytes("g", 259))))
		m.record(1, m.hold(api.Inode{Id: 257, Kind: 1}, noise(1, 1000)))
		m.record(2, api.Inode{Id: 258, Kind: 2})
		m.record(3, m.hold(api.Inode{Id: 259, Kind: 1}, noise(1, 10)))
		change(m)
		return m.ground(t)
	}
	record := func(m *image) { m.record(3, api.Inode{Id: 259, Kind: 1, Indirect: 1}) }
	with(record).fault(look("/g"), api.ErrRecord)
	with(record).fault(getattr(259), api.ErrRecord)
	with(record).fault(getattr(515), api.ErrRecord)
	with(record).fault(write(257, 0, "x"), api.ErrRecord)
	with(record).fault(write(257, 30000, "x"), api.ErrRecord)
	with(record).status(write(257, 69632, "x"), api.ErrFBig)
	with(record).status(write(258, 0, "x"), api.ErrIsDir)
	with(record).status(read(257, 0, 1), api.OK)
	with(record).fault(op(api.Create, 258, "x"), api.ErrRecord)
	with(record).status(op(api.Create, 256, "g"), api.ErrExist)
	with(record).fault(move(256, "g", 258, "x"), api.ErrRecord)
	with(record).fault(move(256, "f", 256, "g"), api.ErrRecord)
	with(record).status(move(256, "f", 258, "g"), api.OK)
	with(record).status(list(256, "", 2), api.OK)
	with(record).fault(list(256, "", 3), api.ErrRecord)
	notUsed := func(m *image) { clear(m.block(m.l.Bits)) }
	with(notUsed).fault(op(api.Remove, 256, "f"), api.ErrNotUsed)
	with(notUsed).fault(move(256, "f", 256, "g"), api.ErrNotUsed)
	with(notUsed).status(op(api.Rmdir, 256, "d"), api.OK)
	full := func(m *image) { copy(m.block(m.l.Bits), strings.Repeat("\xff", 512)) }
	with(full).fault(write(257, 5000, "x"), api.ErrSpace)
	with(full).status(write(257, 0, "x"), api.OK)
	with(full).fault(op(api.Create, 258, "x"), api.ErrSpace)
	with(full).status(op(api.Create, 256, "x"), api.OK)
	with(full).fault(move(256, "f", 258, "x"), api.ErrSpace)
	indirect := func(m *image) {
		m.record(1, api.Inode{Id: 257, Kind: 1, Size: 9000, Indirect: m.take([]byte{0xff, 0, 0, 1})})
	}
	with(indirect).fault(read(257, 4096, 1), api.ErrBent)
	with(indirect).status(read(257, 0, 1024), api.OK)
	with(indirect).fault(write(257, 4100, "x"), api.ErrBent)
	with(indirect).fault(op(api.Remove, 256, "f"), api.ErrBent)
	size := func(m *image) { m.record(2, api.Inode{Id: 258, Kind: 2, Size: 33}) }
	with(size).attr(getattr(258), api.Attr{Id: 258, Kind: 2, Size: 33})
	with(size).attr(look("/d"), api.Attr{Id: 258, Kind: 2, Size: 33})
	with(size).fault(look("/d/x"), api.ErrDirBent)
	with(size).fault(list(258, "", 1), api.ErrDirBent)
	with(size).fault(op(api.Create, 258, "x"), api.ErrDirBent)
	with(size).status(op(api.Rmdir, 256, "d"), api.ErrNotEmpty)
	with(size).status(op(api.Remove, 256, "d"), api.ErrIsDir)
	with(size).fault(move(256, "f", 258, "x"), api.ErrDirBent)
	with(size).fault(move(256, "d", 256, "x"), api.ErrDirBent)
	one := func(m *image) { m.record(2, api.Inode{Id: 258, Kind: 2, Size: 1}) }
	with(one).status(op(api.Rmdir, 256, "d"), api.ErrNotEmpty)
	over := func(m *image) { m.record(3, api.Inode{Id: 259, Kind: 1, Size: 30000}) }
	with(over).status(write(257, 0, "x"), api.ErrQuota)
	with(over).status(write(259, 0, "x"), api.ErrQuota)
}

// TestP12_5FullDirectory: 256 entries, which no tree has: one more is an error of package dir.
func TestP12_5FullDirectory(t *testing.T) {
	m := newImage(t, api.Shape{Clients: 1, Window: 1, Places: 1, Cache: 1, Inodes: 12, Data: 80, Journal: 27})
	var row []byte
	for i := range 256 {
		row = append(row, entryBytes(fmt.Sprint("n", i), 257)...)
	}
	x := m.hold(api.Inode{Id: 256, Kind: 2}, row)
	numbers := make([]byte, 512)
	for i := range 8 {
		numbers[4*i+3] = byte(m.take(row[4096+512*i:]))
	}
	x.Indirect = m.take(numbers)
	m.record(0, x)
	m.record(1, api.Inode{Id: 257, Kind: 1})
	m.record(2, m.hold(api.Inode{Id: 258, Kind: 2}, entryBytes("f", 257)))
	g := m.ground(t)
	g.attr(look("/"), api.Attr{Id: 256, Kind: 2, Size: 8192})
	g.fault(op(api.Create, 256, "more"), api.ErrDirBent)
	g.fault(move(258, "f", 256, "more"), api.ErrDirBent)
	g.status(op(api.Create, 256, "n7"), api.ErrExist)
	g.status(move(256, "n7", 256, "more"), api.OK)
}
