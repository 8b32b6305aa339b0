package paint_test

import (
	"math"
	"slices"
	"strings"
	"testing"

	"bodkin/api"
	"bodkin/paint"
)

// someCells has cells that a fit frame may have, and more that it may not.
var someCells = []api.Cell{
	{Text: "a", Span: 1}, {Text: " ", Span: 1}, {Text: " \u0301", Span: 1}, {Text: "\u4e00", Span: 2}, {Text: "", Span: 0},
	{Text: "\u3000\u0301\u200d", Span: 2}, {Text: "\uFFFD", Span: 1}, {Text: "", Span: 1}, {Text: "", Span: 2}, {Text: "a", Span: 2},
	{Text: "a", Span: 0}, {Text: " ", Span: 0}, {Text: "\u4e00", Span: 1}, {Text: "\u4e00", Span: 0}, {Text: "ab", Span: 1},
	{Text: "ab", Span: 2}, {Text: "\u4e00\u4e01", Span: 2}, {Text: "\x01", Span: 1}, {Text: "\x01", Span: 2}, {Text: "\n", Span: 0},
	{Text: "\xff", Span: 1}, {Text: "a\xff", Span: 1}, {Text: "\u0301", Span: 1}, {Text: "", Span: -1}, {Text: "a", Span: 3},
}

// everyRow calls look with each row of at most most of the cells. (The row is written over behind that.)
func everyRow(most int, look func([]api.Cell)) {
	var grow func(cells []api.Cell)
	grow = func(cells []api.Cell) {
		look(cells)
		for _, c := range someCells {
			if len(cells) < most {
				grow(append(cells, c))
			}
		}
	}
	grow(make([]api.Cell, 0, most))
}

// wantFit holds Fit against the plain answer, and asks for what is painted of a frame that is fit, and of no other.
func wantFit(t *testing.T, f api.Frame) bool {
	t.Helper()
	want := isFit(f)
	if got := paint.Fit(f); got != want {
		t.Fatalf("P21.1: Fit is %v of %v", got, f)
	}
	if got := paint.Full(f); got != fully(f) {
		t.Fatalf("P21.2: Full is %q, want %q", got, fully(f))
	}
	if got := paint.Next(f, f); want && got != to(f.Cursor.Row, f.Cursor.Col) || !want && got != "" {
		t.Fatalf("P21.5: Next(f, f) is %q of %v", got, f)
	}
	return want
}

// TestFitRows has all rows of few cells, alone and behind others.
func TestFitRows(t *testing.T) {
	fit := 0
	everyRow(3, func(cells []api.Cell) {
		for width := 1; width < 5; width++ {
			if wantFit(t, frame(width, 0, 0, cells)) {
				fit++
			}
		}
		wantFit(t, frame(4, 2, 3, row("a"), nil, cells))
		wantFit(t, frame(4, 0, 0, cells, row("a", "b", "c", "d")))
	})
	if fit == 0 {
		t.Error("P21.1: none of them is fit")
	}
}

// TestFitLongRows has the cells among ones that are fit, in every place of a row.
func TestFitLongRows(t *testing.T) {
	around := join(row("a", " "), wide("\u4e00", "\u4e01"), row(" ", " ", "b\u0301"), wide("\u3000"))
	for i := range len(around) + 1 {
		for _, c := range someCells {
			for width := 8; width < 12; width++ {
				wantFit(t, frame(width, 1, 2, nil, join(around[:i], []api.Cell{c}, around[i:])))
				wantFit(t, frame(width, 1, 2, nil, join(around[:i], []api.Cell{c, {}}, around[i:])))
				if i < len(around) {
					wantFit(t, frame(width, 1, 2, nil, join(around[:i], []api.Cell{c}, around[i+1:])))
					wantFit(t, frame(width, 1, 2, nil, join(around[:i], around[i+1:])))
				}
			}
		}
	}
}

// textOfOne has Texts that take one cell, textOfTwo such as take two, textOfNone such as aren't drawn as themselves.
var (
	textOfOne = []string{
		" ", "a", "~", "\u00a0", "\u00ad", "\u00e9", "\u02ff", "\u0370", "\u10ff", "\u1160", "\u303f", "\ufffd", "\U0001F650", "\U0010FFFF",
		" \u0301", "e\u0301\u0300", "a\u200d\ufe0f", "\ufffd\u0301", "a\U000E0100", "a\U0001F3FB",
	}
	textOfTwo = []string{
		"\u1100", "\u115f", "\u231a", "\u3000", "\u3098", "\u309b", "\u4e00", "\uac00", "\uff01", "\U0001F300", "\U0001F3FA", "\U0001F600", "\U0002FFFD", "\U00030000",
		"\u4e00\u0301", "\u4e00\u0301\u0300", "\U0001F600\U0001F3FB", "\u3000\u3099",
	}
	textOfNone = []string{
		"", "ab", "  ", "a ", " a", "aa\u0301", "a\u0301b", "\u4e00a", "a\u4e00", "\u4e00\u4e01", "\u4e00\u0301\u4e01", "\u4e00 ", " \u4e00",
		"\x00", "\x01", "\t", "\n", "\r", "\r\n", "\x1b", "\x1b[m", "\x7f", "\u0080", "\u0085", "\u009f", "a\n", "a\x00", "\x00a", "a\x1b", "\u4e00\x01", "\n\u0301", "\x01\u0301",
		"\x80", "\xff", "\xc3", "\xe4\xb8", "\xc0\x80", "\xed\xa0\x80", "\xf4\x90\x80\x80", "\xff\u0301", "a\xff", "\xffa", "\u4e00\xff", "a\xcc", "a\u0301\xcc", "\u4e00\xe4\xb8", "a\u0301\xff\u0301",
		"\u0300", "\u0301", "\u0301\u0301", "\u200d", "\ufe0f", "\U0001F3FB", "\U000E0100", "\u0301a", "\u0301\u4e00",
	}
)

// TestFitTexts has a cell of each Text with each Span, alone and with a right half behind it.
func TestFitTexts(t *testing.T) {
	look := func(list []string, cells int) {
		for _, text := range list {
			for _, span := range []int{math.MinInt, -2, -1, 0, 1, 2, 3, 4, 258, 1 << 32, 1<<32 + 1, math.MaxInt} {
				c := api.Cell{Text: text, Span: span}
				alone, halved := frame(9, 0, 8, []api.Cell{c}), frame(9, 0, 8, []api.Cell{c, {}})
				ahead, within := frame(9, 0, 8, join(row("x"), []api.Cell{c}, row("x"))), frame(9, 0, 8, join(row("x"), []api.Cell{c, {}}, row("x")))
				one, two := span == 1 && cells == 1, span == 2 && cells == 2
				if paint.Fit(alone) != (one && text != " ") || paint.Fit(halved) != two || paint.Fit(ahead) != one || paint.Fit(within) != two {
					t.Errorf("P21.1: a cell of %q, Span %d: %v, %v with a right half, %v and %v within", text, span, paint.Fit(alone), paint.Fit(halved), paint.Fit(ahead), paint.Fit(within))
				}
			}
		}
	}
	look(textOfOne, 1)
	look(textOfTwo, 2)
	look(textOfNone, 0)
}

// TestFitHalves has right halves that aren't one, and left ones without them.
func TestFitHalves(t *testing.T) {
	left := api.Cell{Text: "\u4e00", Span: 2}
	for i, cells := range [][]api.Cell{
		{left}, {left, left}, {left, {}, left}, {left, blank}, {left, {Text: "a", Span: 1}}, {left, {}, {}}, {{}}, {{}, left}, {{}, {}}, {{}, left, {}},
		{{Text: "a", Span: 1}, {}}, {blank, {}}, {left, {Text: "x"}}, {left, {Text: " "}}, {left, {Text: "\u0301"}}, {left, {Text: "\u4e00"}}, {left, {Span: 1}}, {left, {Span: 2}}, {left, {Span: -1}},
		{left, {Span: 2}, {}}, {{Text: "a", Span: 1}, left}, {left, {}, {Text: "a", Span: 1}, {}}, {left, {}, {Text: "a", Span: 1}, left}, {left, left, {}}, {left, {Text: "a", Span: 1}, {}},
	} {
		if wantFit(t, frame(5, 0, 0, cells)) {
			t.Errorf("P21.1: the row %d is not fit: %v", i, cells)
		}
	}
	for _, width := range []int{1, 2, 3, 4, 5} {
		if got := paint.Fit(frame(width, 0, 0, wide("\u4e00"))); got != (width >= 2) {
			t.Errorf("P21.1: a wide cell in %d columns: %v", width, got)
		}
		if got := paint.Fit(frame(width, 0, 0, join(row("a"), wide("\u4e00", "\u4e01")))); got != (width >= 5) {
			t.Errorf("P21.1: a and two wide cells in %d columns: %v", width, got)
		}
	}
}

// TestFitWidths has widths at their bounds and outside of them, and rows of as many cells and of one more.
func TestFitWidths(t *testing.T) {
	for _, x := range []struct {
		width int
		fit   bool
	}{
		{math.MinInt, false}, {-65535, false}, {-1, false}, {0, false}, {1, true}, {2, true}, {65534, true}, {65535, true}, {65536, false}, {65537, false}, {1 << 32, false}, {1<<32 + 1, false}, {math.MaxInt, false},
	} {
		if got := wantFit(t, frame(x.width, 0, 0, nil)); got != x.fit {
			t.Errorf("P21.1: the width %d: %v", x.width, got)
		}
		if got := wantFit(t, frame(x.width, 0, 0, row("a"))); got != x.fit {
			t.Errorf("P21.1: the width %d, one cell: %v", x.width, got)
		}
	}
	for _, width := range []int{1, 2, 3, 79, 65534, 65535} {
		full := slices.Repeat(row("x"), width)
		for _, at := range []int{0, 1} {
			rows := [][]api.Cell{nil, nil}
			rows[at] = full
			if !wantFit(t, frame(width, 1, width-1, rows...)) {
				t.Errorf("P21.1: a row of %d cells in as many columns is fit", width)
			}
			rows[at] = join(full, row("x"))
			if wantFit(t, frame(width, 1, width-1, rows...)) {
				t.Errorf("P21.1: a row of %d cells and one more isn't fit", width)
			}
		}
	}
}

// TestFitBlanks has blanks at a row's end and elsewhere, and what is like them.
func TestFitBlanks(t *testing.T) {
	for _, x := range []struct {
		cells []api.Cell
		fit   bool
	}{
		{nil, true}, {row(" "), false}, {row(" ", " "), false}, {row("a", " "), false}, {row("a", "b", "c", " "), false}, {row(" ", "a"), true}, {row("a", " ", " ", "b"), true},
		{row("a", " \u0301"), true}, {row("a", "\u00a0"), true}, {wide("\u3000"), true}, {join(wide("\u4e00"), row(" ")), false}, {join(row(" "), wide("\u4e00")), true}, {row(" \u0301", " "), false},
	} {
		for _, rows := range [][][]api.Cell{{x.cells}, {x.cells, nil}, {row("a"), x.cells}, {nil, x.cells, row("b")}} {
			if got := wantFit(t, frame(4, 0, 0, rows...)); got != x.fit {
				t.Errorf("P21.1: Fit is %v with the row %v", got, x.cells)
			}
		}
	}
}

// TestFitCursors has cursors at the bounds and outside of them.
func TestFitCursors(t *testing.T) {
	numbers := []int{math.MinInt, math.MinInt32, -65536, -2, -1, 0, 1, 2, 3, 4, 5, 6, 65535, 1 << 32, 1<<32 + 1, math.MaxInt}
	for _, rows := range [][][]api.Cell{nil, {}, {nil}, {{}}, {row("a")}, {nil, nil, nil}, {row("a"), wide("\u4e00"), row("a", "b", "c", "d"), nil}} {
		for width := 4; width < 6; width++ {
			for _, r := range numbers {
				for _, c := range numbers {
					want := r >= 0 && r < len(rows) && c >= 0 && c < width
					if got := wantFit(t, frame(width, r, c, rows...)); got != want {
						t.Errorf("P21.1: the cursor %d, %d on %d rows of %d columns: %v", r, c, len(rows), width, got)
					}
				}
			}
		}
	}
}

// TestFitLongTexts has clusters of very many marks, and very many rows.
func TestFitLongTexts(t *testing.T) {
	marks := strings.Repeat("\u0301", 300000)
	for _, x := range []struct {
		cells []api.Cell
		fit   bool
	}{
		{row("a" + marks), true}, {row("a" + marks + "b"), false}, {row("a" + marks + "\xcc"), false}, {row(marks), false}, {row(" " + marks), true}, {wide("\u4e00" + marks), true}, {wide("\u4e00" + marks + "\u4e00"), false}, {wide("\u4e00" + marks)[:1], false},
	} {
		if got := paint.Fit(frame(3, 0, 0, x.cells)); got != x.fit {
			t.Errorf("P21.1: many marks: %v, want %v", got, x.fit)
		}
	}
	many := slices.Repeat([][]api.Cell{row("a"), nil}, 100000)
	if !paint.Fit(frame(1, 199999, 0, many...)) {
		t.Error("P21.1: very many rows are fit")
	}
	many[len(many)-1] = row(" ")
	if paint.Fit(frame(1, 199999, 0, many...)) {
		t.Error("P21.1: with a blank in the last of many rows it isn't fit")
	}
}
