package fsck_test

import (
	"testing"

	"annex/api"
)

const rootLine = "dir / 256 0 1"

// TestExamples is the chapter's table.
func TestExamples(t *testing.T) {
	image := diskOf(t, example)
	is(t, "blocks", len(image.b), 58*512)
	says(t, "as it is", image.b, api.OK, nil, []string{rootLine})
	says(t, "57 blocks", image.b[:57*512], api.ErrRoom, nil, nil)
	says(t, "511 bytes", image.b[:511], api.ErrImage, nil, nil)
	for i := range 512 {
		d := image.copy()
		d.b[i] ^= 1
		code := api.ErrSuper
		if 4 <= i && i < 44 {
			code = api.ErrSuperSum
		}
		says(t, "one byte of block 0 changed", d.b, code, nil, nil)
	}
	root := []string{rootLine}
	for _, x := range []struct {
		what        string
		change      func(d *disk)
		check, tree []string
	}{
		{"block 1 all zeros", func(d *disk) { clear(d.block(1)) }, []string{"boot"}, root},
		{"the bitmap's first byte 01", func(d *disk) { d.block(36)[0] = 1 }, []string{"lost 38"}, root},
		{"the root's kind 1", func(d *disk) { d.slot(0)[11] = 1 }, []string{"root"}, nil},
		{"the root's kind 3", func(d *disk) { d.slot(0)[11] = 3 }, []string{"record 0", "root"}, nil},
		{"the root's Change 9", func(d *disk) { d.slot(0)[23] = 9 }, []string{"change 256"}, []string{"dir / 256 0 9"}},
		{"the root's Size 32, Direct 0", func(d *disk) { d.slot(0)[15] = 32 }, []string{"list 256"}, []string{"dir / 256 - 1"}},
		{"slot 1 of generation 2, kind 2", func(d *disk) { d.slot(1)[7], d.slot(1)[11] = 2, 2 }, []string{"orphan 513"}, root},
		{"a watermark of 2^62 + 1 for client 1", func(d *disk) { d.mark(1, last+1) }, []string{"mark 1"}, root},
	} {
		d := image.copy()
		x.change(d)
		says(t, x.what, d.b, api.OK, x.check, x.tree)
		holds(t, x.what, d.b)
	}
}
