package file

import (
	"math"

	"annex/api"
	"annex/bits"
)

const (
	direct     = 8                          // the pieces whose numbers stand in the inode itself
	numberSize = 4                          // bytes of a number in the indirect block
	indirect   = api.BlockSize / numberSize // the pieces whose numbers stand there
	pieces     = direct + indirect          // all that contents may have
)

// none is the number of no block.
const none = 0

// isBent does not judge the numbers in the indirect block: that is done where they are asked for.
func isBent(l api.Layout, x api.Inode) bool {
	if x.Size < 0 || x.Size > api.MaxSize {
		return true
	}
	for _, b := range x.Direct {
		if !mayBe(l, b) {
			return true
		}
	}
	return !mayBe(l, x.Indirect)
}

func mayBe(l api.Layout, b int) bool {
	return b == none || b >= l.Data && b < l.Data+l.DataLen
}

// number tells the block of a piece, or none.
func (c *contents) number(n int) (int, api.Errno) {
	if n < direct {
		return c.inode.Direct[n], api.OK
	}
	if c.inode.Indirect == none {
		return none, api.OK
	}
	if c.numbers == nil {
		block, code := c.read(c.inode.Indirect)
		if code != api.OK {
			return 0, code
		}
		c.numbers = block
	}
	b := bits.NewReader(c.place(n)).U32(math.MaxUint32)
	if !mayBe(c.layout, b) {
		return 0, api.ErrBent
	}
	return b, api.OK
}

// setNumber is for a piece that was asked for its number, or is the first one of a new indirect block.
func (c *contents) setNumber(n, b int) {
	if n < direct {
		c.inode.Direct[n] = b
		return
	}
	copy(c.place(n), bits.Put32(nil, b))
	c.changed = true
}

// place is where the number of a piece stands in the indirect block.
func (c *contents) place(n int) []byte {
	from := (n - direct) * numberSize
	to := from + numberSize
	return c.numbers[from:to:to]
}
