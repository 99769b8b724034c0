package dir_test

import (
	"bytes"
	"math"
	"slices"
	"testing"

	"annex/api"
	"annex/file"
	"annex/inode"
)

// TestP11_2Bytes: what stands in the block, whatever stood there before it was taken.
func TestP11_2Bytes(t *testing.T) {
	g := groundOf(t, 24)
	x := g.added(first, odd[:16]...)
	is(t, "the inode", x, api.Inode{Id: 256, Kind: 2, Size: 512, Change: 7, Direct: [8]int{g.l.Data}})
	var want []byte
	for _, name := range odd[:16] {
		want = append(want, bytesOf(name, uint64(idOf(name)))...)
	}
	block, _ := g.x.Read(g.l.Data)
	is(t, "the block is as told", bytes.Equal(block, want), true)
	y := g.added(x, odd[16])
	is(t, "the inode", y, api.Inode{Id: 256, Kind: 2, Size: 544, Change: 7, Direct: [8]int{g.l.Data, g.l.Data + 1}})
	block, _ = g.x.Read(g.l.Data + 1)
	is(t, "the next block is as told", bytes.Equal(block, append(bytesOf(odd[16], uint64(idOf(odd[16]))), make([]byte, 480)...)), true)
	record, code := inode.Get(g.x, g.l, 256)
	is(t, "Get", code, api.OK)
	is(t, "the record", record, y)
	g.holds(y, odd[:17]...)
}

// TestP11_2Written: the blocks that an Add writes: the contents' last one, the table's; the bitmap where a block is taken; the numbers' where they change.
func TestP11_2Written(t *testing.T) {
	for n, want := range map[int][]string{
		0: {"new", "bits", "table"}, 1: {"old", "table"}, 15: {"old", "table"}, 16: {"new", "bits", "table"}, 17: {"old", "table"},
		127: {"old", "table"}, 128: {"new", "numbers", "bits", "table"}, 129: {"old", "table"}, 144: {"new", "numbers", "bits", "table"}, 255: {"old", "table"},
	} {
		g := groundOf(t, 24)
		x, list := g.full(first, n)
		y := g.added(x, "one more")
		g.holds(y, append(list, "one more")...)
		is(t, "Size", y.Size, 32*(n+1))
		b, code := file.Blocks(g.x, g.l, y)
		is(t, "Blocks", code, api.OK)
		var blocks []int
		for _, what := range want {
			switch what {
			case "bits":
				blocks = append(blocks, g.l.Bits)
			case "table":
				blocks = append(blocks, g.l.Table)
			case "numbers":
				blocks = append(blocks, y.Indirect)
			default:
				blocks = append(blocks, g.pieceOf(y, n/16))
			}
		}
		slices.Sort(blocks)
		if got := g.x.Blocks(); !slices.Equal(got, blocks) {
			t.Errorf("Add to %d names has written %v, want %v (%v)", n, got, blocks, b)
		}
	}
}

// pieceOf is the block of a piece.
func (g *ground) pieceOf(x api.Inode, p int) int {
	if p < 8 {
		return x.Direct[p]
	}
	b, _ := g.x.Read(x.Indirect)
	b = b[4*(p-8):]
	return int(b[0])<<24 | int(b[1])<<16 | int(b[2])<<8 | int(b[3])
}

func TestP11_2Twice(t *testing.T) {
	g := groundOf(t, 24)
	x := g.added(first, odd...)
	for _, name := range odd {
		for _, id := range []int{1, idOf(name), 1<<49 - 1} {
			if y, code := g.add(x, name, id); code != api.ErrTwice || y != (api.Inode{}) {
				t.Errorf("Add(%q) = %+v, %d", name, y, code)
			}
		}
	}
	g.holds(x, odd...)
	x = g.removed(x, odd[3])
	g.added(x, odd[3])
}

func TestP11_2Ids(t *testing.T) {
	g := groundOf(t, 24)
	x := g.added(first, "a")
	for _, id := range []int{0, -1, -256, 1 << 49, 1<<49 + 1, 1<<56 | 5, 1 << 62, math.MaxInt, math.MinInt, math.MinInt + 1} {
		for _, name := range []string{"a", "b"} {
			if y, code := g.add(x, name, id); code != api.ErrArg || y != (api.Inode{}) {
				t.Errorf("Add(%q, %d) = %+v, %d", name, id, y, code)
			}
		}
	}
	for _, id := range []int{1, 2, 255, 256, 1 << 48, 1<<49 - 2, 1<<49 - 1} {
		_, code := g.add(x, "b", id)
		is(t, "Add", code, api.OK)
		g.drop()
		x = g.added(first, "a")
	}
}

// TestP11_2Full: 256 names and no more; a name that is there is told first.
func TestP11_2Full(t *testing.T) {
	g := groundOf(t, 24)
	x, list := g.full(first, 255)
	x = g.added(x, "last")
	is(t, "Size", x.Size, 8192)
	g.commit()
	_, code := g.add(x, "one more", 5)
	is(t, "one more", code, api.ErrDirBent)
	_, code = g.add(x, "last", 5)
	is(t, "the last one", code, api.ErrTwice)
	_, code = g.add(x, list[0], 5)
	is(t, "the first one", code, api.ErrTwice)
	_, code = g.add(x, "", 5)
	is(t, "no name", code, api.ErrName)
	_, code = g.add(x, "one more", 0)
	is(t, "no id", code, api.ErrArg)
	is(t, "blocks written", len(g.x.Blocks()), 0)
	x = g.removed(x, list[0])
	g.added(x, "one more")
}

// TestP11_2AsHandedIn: x is what counts, not the record; its Kind, Id and Change stay.
func TestP11_2AsHandedIn(t *testing.T) {
	g := groundOf(t, 24)
	old := g.added(first, "a")
	x := first
	x.Change = 99
	y := g.added(x, "b")
	is(t, "the inode", y, api.Inode{Id: 256, Kind: 2, Size: 32, Change: 99, Direct: [8]int{g.l.Data + 1}})
	g.holds(old, "a")
	g.holds(y, "b")
	record, _ := inode.Get(g.x, g.l, 256)
	is(t, "the record", record, y)
}

// TestP11_2FromBelow: the errors of file.Write go up, with nothing beside them.
func TestP11_2FromBelow(t *testing.T) {
	g := groundOf(t, 16)
	stale := first
	stale.Id += 256
	_, code := g.add(stale, "a", 5)
	is(t, "a stale id", code, api.ErrStale)
	other := third
	other.Kind = 2
	_, code = g.add(other, "a", 5)
	is(t, "an inode that is a file in the table", code, api.ErrArg)
	x := g.added(first, manyNames(16)...)
	g.wrote(third, 0, make([]byte, 14*512))
	g.commit()
	y, code := g.add(x, "a", 5)
	is(t, "no block is free", code, api.ErrSpace)
	is(t, "beside it", y, api.Inode{})
	_, code = g.add(second, "a", 5)
	is(t, "no block is free", code, api.ErrSpace)
	_, code = g.add(x, manyNames(16)[4], 5)
	is(t, "the name is there", code, api.ErrTwice)
	x = g.removed(x, manyNames(16)[4])
	g.added(x, "a")
}
