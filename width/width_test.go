package width_test

import (
	"math"
	"slices"
	"testing"

	"bodkin/api"
	"bodkin/width"
)

func checkRune(t *testing.T, r reference, c rune) {
	class, cells := r.look(c)
	if got := width.Class(c); got != class {
		t.Errorf("P2.1: Class(%#x): %d, want %d", c, got, class)
	}
	if got := width.Cells(c); got != cells {
		t.Errorf("P2.1: Cells(%#x): %d, want %d", c, got, cells)
	}
}

func TestEachCharacter(t *testing.T) {
	r := newReference()
	for c := rune(0); c <= 0x10FFFF && !t.Failed(); c++ {
		checkRune(t, r, c)
	}
}

func TestEndsOfTables(t *testing.T) {
	r := newReference()
	for _, list := range [][]api.Range{r.marks, r.wide, ranges("0 9, A A, B 1F, 20 7E, 7F 7F, 80 9F, D800 DFFF")} {
		for _, x := range list {
			for _, c := range []rune{x.First - 1, x.First, x.First + 1, x.Last - 1, x.Last, x.Last + 1} {
				checkRune(t, r, c)
			}
		}
	}
}

func TestWhatIsNoCharacter(t *testing.T) {
	r := newReference()
	for _, c := range []rune{-1, -2, -0x0A, -0x300, -0x10FFFF, -0x110000, 0xD800, 0xDBFF, 0xDC00, 0xDFFF, 0x110000, 0x110300, 0x20000A, 0x7FFFFFF, math.MinInt32, math.MinInt32 + 1, math.MaxInt32 - 1, math.MaxInt32} {
		if class := width.Class(c); class != api.ClassBad {
			t.Errorf("P2.1: Class(%#x): %d, want ClassBad", c, class)
		}
		checkRune(t, r, c)
	}
}

func TestOrdinaryCharacters(t *testing.T) {
	for _, x := range []struct {
		chars []rune
		class api.Class
		cells int
	}{
		{[]rune{' ', 'a', 'Z', '0', '~', 0xA0, 0xE9, 0x2FF, 0x416, 0x20AC, 0xD7FF, 0xE000, 0xFFFF}, api.ClassPlain, 1},
		{[]rune{0x00, 0x09, 0x0B, 0x0D, 0x1B, 0x1F, 0x7F}, api.ClassControl, 2},
		{[]rune{0x80, 0x85, 0x9B, 0x9F}, api.ClassControl, 1},
		{[]rune{0x301, 0x308, 0x5BF, 0x94D, 0x200D, 0xFE0F, 0x1F3FD, 0xE0150}, api.ClassMark, 1},
		{[]rune{0x1112, 0x3000, 0x3042, 0x4E00, 0xAC01, 0xFF21, 0x1F600, 0x20001, 0x3FFFD}, api.ClassWide, 2},
		{[]rune{0x0A}, api.ClassNewline, 0},
		{[]rune{-1}, api.ClassBad, 1},
	} {
		for _, c := range x.chars {
			if width.Class(c) != x.class || width.Cells(c) != x.cells {
				t.Errorf("P2.1: %#x: class %d, %d cells, want %d, %d", c, width.Class(c), width.Cells(c), x.class, x.cells)
			}
		}
	}
}

func TestRanges(t *testing.T) {
	r := newReference()
	for k, want := range map[api.Class][]api.Range{
		api.ClassNewline: ranges("A A"),
		api.ClassControl: ranges("0 9, B 1F, 7F 9F"),
		api.ClassMark:    r.marks,
		api.ClassWide:    r.wide,
	} {
		if got := width.Ranges(k); !slices.Equal(got, want) {
			t.Errorf("P2.2: Ranges(%d): %x, want %x", k, got, want)
		}
	}
}

func TestRangesOfNoTable(t *testing.T) {
	for _, k := range []api.Class{api.ClassPlain, api.ClassBad, api.ClassBad + 1, 9, 1000, -1, -2, -1000, math.MinInt, math.MinInt + 1, math.MaxInt - 1, math.MaxInt, math.MinInt + api.ClassMark, 1<<32 + api.ClassMark, 1<<8 + api.ClassWide} {
		if got := width.Ranges(k); len(got) != 0 {
			t.Errorf("P2.2: Ranges(%d): %x, want none", k, got)
		}
	}
}

func TestRangesAgreeWithClasses(t *testing.T) {
	for _, k := range []api.Class{api.ClassNewline, api.ClassControl, api.ClassMark, api.ClassWide} {
		list := width.Ranges(k)
		for c := rune(0); c <= 0x10FFFF; c++ {
			if got, want := in(list, c), width.Class(c) == k; got != want {
				t.Fatalf("P2.2: %#x is in a range of class %d: %v, but is of class %d", c, k, got, width.Class(c))
			}
		}
	}
}

func TestRangesAreNewMemory(t *testing.T) {
	for _, k := range []api.Class{api.ClassNewline, api.ClassControl, api.ClassMark, api.ClassWide} {
		one, two := width.Ranges(k), width.Ranges(k)
		want := slices.Clone(two)
		one = one[:cap(one)]
		for i := range one {
			one[i] = api.Range{First: 'a', Last: 'z'}
		}
		if !slices.Equal(two, want) || !slices.Equal(width.Ranges(k), want) {
			t.Errorf("P2.2: class %d: a change of one list is seen in another", k)
		}
	}
	r := newReference()
	for _, c := range []rune{'a', '\n', 0x1B, 0x300, 0x4E00} {
		checkRune(t, r, c)
	}
}
