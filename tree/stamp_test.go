package tree_test

import (
	"fmt"
	"testing"

	"annex/api"
	"annex/inode"
)

// TestP12_3Stamped: by each operation these inodes have the number of the transaction, and no others; also if several are done in one.
func TestP12_3Stamped(t *testing.T) {
	for _, c := range []struct {
		r     api.Request
		stamp []int
	}{
		{look("/d/df"), nil}, {getattr(257), nil}, {read(257, 0, 9), nil}, {list(256, "", 9), nil}, {write(257, 1, "x"), []int{257}}, {write(260, 500, "x"), []int{260}},
		{op(api.Create, 256, "new"), []int{256, 265}}, {op(api.Mkdir, 261, "new"), []int{261, 265}}, {op(api.Remove, 256, "f"), []int{256}}, {op(api.Remove, 259, "df"), []int{259}}, {op(api.Rmdir, 256, "e"), []int{256}},
		{move(256, "f", 256, "x"), []int{256}}, {move(256, "f", 263, "x"), []int{256, 263}}, {move(256, "d", 263, "x"), []int{256, 263}}, {move(259, "df", 256, "f"), []int{256, 259}}, {move(256, "e", 256, "h"), []int{256}},
		{move(256, "f", 256, "f"), nil}, {move(256, "f", 256, "d"), nil}, {op(api.Create, 256, "f"), nil}, {op(api.Rmdir, 256, "d"), nil}, {write(257, 30000, "x"), nil},
	} {
		for ahead := range 2 {
			g := yard(t)
			if ahead == 1 {
				g.ok(write(258, 0, "in the same transaction"))
				c.stamp = append(c.stamp, 258)
			}
			was := map[int]api.Inode{}
			all, _ := inode.All(g.x, g.l)
			for _, x := range all {
				was[x.Id] = x
			}
			g.do(c.r)
			all, _ = inode.All(g.x, g.l)
			for _, x := range all {
				want := was[x.Id].Change
				for _, id := range c.stamp {
					if id == x.Id {
						want = 13
					}
				}
				is(t, fmt.Sprintf("%+v: the Change of %d", c.r, x.Id), x.Change, want)
			}
		}
	}
}

// TestP12_3Bytes: the files count, whether or not an entry leads to them; directories do not.
func TestP12_3Bytes(t *testing.T) {
	m := newImage(t, shapeOf(6, 1000))
	m.record(0, m.hold(api.Inode{Id: 256, Kind: 2}, entryBytes("f", 257)))
	m.record(1, m.hold(api.Inode{Id: 257, Kind: 1}, noise(1, 100)))
	m.record(2, api.Inode{Id: 258, Kind: 2, Size: 4000})
	m.record(3, api.Inode{Id: 3<<8 | 3, Kind: 1, Size: 300})
	g := m.ground(t)
	g.usage(400, 4)
	g.status(write(257, 700, "x"), api.ErrQuota)
	g.status(write(257, 690, "12345678901"), api.ErrQuota)
	g.status(write(3<<8|3, 900, "x"), api.ErrQuota)
	g.status(write(257, 699, "x"), api.OK)
	g.usage(1000, 4)
	g.status(write(3<<8|3, 300, "x"), api.ErrQuota)
	g.status(write(3<<8|3, 299, "x"), api.OK)
}
