package width_test

import (
	"testing"

	"bodkin/api"
	"bodkin/width"
)

// The chapter's examples, as they stand there. Where it tells no cells for a character, they are -1 here.
func TestExamples(t *testing.T) {
	const untold = -1
	for _, x := range []struct {
		c     rune
		class api.Class
		cells int
	}{
		{-1, api.ClassBad, untold}, {0xD800, api.ClassBad, untold}, {0x110000, api.ClassBad, untold},
		{0x0A, api.ClassNewline, 0},
		{0x0D, api.ClassControl, 2}, {0x1B, api.ClassControl, 2}, {0x7F, api.ClassControl, 2},
		{0x85, api.ClassControl, 1},
		{0x300, api.ClassMark, untold}, {0x36F, api.ClassMark, untold}, {0x370, api.ClassPlain, untold},
		{0x3098, api.ClassWide, untold}, {0x3099, api.ClassMark, untold}, {0x309B, api.ClassWide, untold},
		{0xAD, api.ClassPlain, 1}, {0xFFFD, api.ClassPlain, 1}, {0x10FFFF, api.ClassPlain, 1},
		{0x1F3FA, api.ClassWide, untold}, {0x1F3FB, api.ClassMark, untold}, {0x1F400, api.ClassWide, untold},
		{0x303F, api.ClassPlain, untold},
	} {
		if got := width.Class(x.c); got != x.class {
			t.Errorf("example: Class(%#x): %d, want %d", x.c, got, x.class)
		}
		if got := width.Cells(x.c); x.cells != untold && got != x.cells {
			t.Errorf("example: Cells(%#x): %d, want %d", x.c, got, x.cells)
		}
	}
}
