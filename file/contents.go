package file

import (
	"annex/api"
	"annex/inode"
	"annex/journal"
	"annex/space"
)

// contents are an inode's, for one call. Its methods are for numbers of pieces that contents may have.
type contents struct {
	tx      *journal.Tx
	layout  api.Layout
	inode   api.Inode // as it is to be put
	numbers []byte    // the indirect block; nil till it is asked for: what is written ahead of that may be the block itself
	changed bool      // whether numbers is to be written
}

// step is what is done at the piece n: its bytes from the place from on meet their part of a row.
type step func(n, from int, part []byte) api.Errno

// walk goes over the pieces that a row of bytes touches, rising, if the row lies from the byte off on. The row has one byte at least.
func walk(off int, row []byte, do step) api.Errno {
	code := api.OK
walking:
	for n, from := off/api.BlockSize, off%api.BlockSize; ; n, from = n+1, 0 {
		part := row[:min(len(row), api.BlockSize-from)]
		row = row[len(part):]
		switch code = do(n, from, part); {
		case code != api.OK: // a bent number, or an error from below
			break walking
		case len(row) == 0: // the piece behind it is not even asked for its number
			break walking
		}
	}
	return code
}

// show is a step that fills its part, which is zeros: a hole leaves it so.
func (c *contents) show(n, from int, part []byte) api.Errno {
	b, code := c.number(n)
	if code != api.OK || b == none {
		return code
	}
	block, code := c.read(b)
	if code != api.OK {
		return code
	}
	copy(part, block[from:])
	return api.OK
}

// lay is a step that writes its part.
func (c *contents) lay(n, from int, part []byte) api.Errno {
	b, block, code := c.roomFor(n)
	if code != api.OK {
		return code
	}
	copy(block[from:], part)
	return c.tx.Write(b, block)
}

// roomFor tells the block of a piece, and what stands there; one is taken, if it has none.
func (c *contents) roomFor(n int) (int, []byte, api.Errno) {
	b, code := c.number(n)
	if code != api.OK {
		return 0, nil, code
	}
	if b == none {
		return c.take(n)
	}
	block, code := c.read(b)
	return b, block, code
}

// take lets a piece without a block have one. What a block was used for before is not to be seen in it: it begins with bytes 0.
func (c *contents) take(n int) (int, []byte, api.Errno) {
	if n >= direct && c.inode.Indirect == none {
		b, code := space.Alloc(c.tx, c.layout)
		if code != api.OK {
			return 0, nil, code
		}
		c.inode.Indirect, c.numbers = b, make([]byte, api.BlockSize)
	}
	b, code := space.Alloc(c.tx, c.layout)
	if code != api.OK {
		return 0, nil, code
	}
	c.setNumber(n, b)
	return b, make([]byte, api.BlockSize), api.OK
}

// cut gives back what contents of that size do not need.
func (c *contents) cut(size int) api.Errno {
	kept, rest := (size+api.BlockSize-1)/api.BlockSize, size%api.BlockSize
	for n := kept; n < pieces; n++ {
		if code := c.lose(n); code != api.OK {
			return code
		}
	}
	if kept <= direct {
		if code := c.loseNumbers(); code != api.OK {
			return code
		}
	}
	if rest > 0 {
		return c.wipe(kept-1, rest)
	}
	return api.OK
}

// lose takes a piece's block from it, if it has one.
func (c *contents) lose(n int) api.Errno {
	b, code := c.number(n)
	if code != api.OK || b == none {
		return code
	}
	c.setNumber(n, none)
	return space.Free(c.tx, c.layout, b)
}

// loseNumbers gives the indirect block back, if there is one; the numbers in it are not written any more.
func (c *contents) loseNumbers() api.Errno {
	b := c.inode.Indirect
	if b == none {
		return api.OK
	}
	c.inode.Indirect, c.numbers, c.changed = none, nil, false
	return space.Free(c.tx, c.layout, b)
}

// wipe lets a piece's bytes from the place from on be 0: they would be seen again if contents grew over them.
func (c *contents) wipe(n, from int) api.Errno {
	b, code := c.number(n)
	if code != api.OK || b == none {
		return code
	}
	block, code := c.read(b)
	if code != api.OK {
		return code
	}
	clear(block[from:])
	return c.tx.Write(b, block)
}

// put ends a call that changes contents.
func (c *contents) put(size int) (api.Inode, api.Errno) {
	c.inode.Size = size
	if c.changed {
		if code := c.tx.Write(c.inode.Indirect, c.numbers); code != api.OK {
			return api.Inode{}, code
		}
	}
	if code := inode.Put(c.tx, c.layout, c.inode); code != api.OK {
		return api.Inode{}, code
	}
	return c.inode, api.OK
}

func (c *contents) read(b int) ([]byte, api.Errno) {
	if c.tx == nil { // what Begin answers where there is none: it is not open
		return nil, api.ErrEnded
	}
	return c.tx.Read(b)
}
