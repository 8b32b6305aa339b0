package layout_test

import (
	"math"
	"slices"
	"strings"
	"testing"

	"bodkin/api"
	"bodkin/layout"
)

// TestNewlines has newlines at the beginning, at the end, several, and right behind a full row.
func TestNewlines(t *testing.T) {
	for _, lf := range []string{"\n", "\r\n"} {
		n := len(lf)
		wantAll(t, []laid{
			{"", lf, 0, 3, 0, 0, [][]api.Cell{nil, nil}},
			{"", lf, n, 3, 1, 0, [][]api.Cell{nil, nil}},
			{"", lf + "a", 0, 3, 0, 0, [][]api.Cell{nil, row("a")}},
			{"", "a" + lf, 1 + n, 3, 1, 0, [][]api.Cell{row("a"), nil}},
			{"", "a" + lf + lf + "b", 1 + n, 3, 1, 0, [][]api.Cell{row("a"), nil, row("b")}},
			{"", lf + lf + lf, 3 * n, 3, 3, 0, [][]api.Cell{nil, nil, nil, nil}},
			{"", "abc" + lf, 3 + n, 3, 2, 0, [][]api.Cell{row("a", "b", "c"), nil, nil}},
			{"", "ab" + lf + "c", 2, 3, 0, 2, [][]api.Cell{row("a", "b"), row("c")}},
			{"", "a\u4e00" + lf + "c", 4, 3, 1, 0, [][]api.Cell{join(row("a"), wide("\u4e00")), nil, row("c")}},
			{"", "a\x01" + lf + "c", 2, 3, 1, 0, [][]api.Cell{row("a", "^", "A"), nil, row("c")}},
			{"", lf, n, 1, 1, 0, [][]api.Cell{nil, nil}},
			{"", "a" + lf + "b", 1, 1, 1, 0, [][]api.Cell{row("a"), nil, row("b"), nil}},
			{"> " + lf, "a", 0, 4, 1, 0, [][]api.Cell{row(">"), row("a")}},
			{">", lf + "a", 0, 4, 0, 1, [][]api.Cell{row(">"), row("a")}},
		})
	}
}

// TestControls has controls of two cells and of one.
func TestControls(t *testing.T) {
	for c := range 128 {
		if c >= 32 && c < 127 || c == '\n' {
			continue
		}
		s, second := string(rune(c)), string(rune(c+64))
		if c == 127 {
			second = "?"
		}
		wantAll(t, []laid{
			{"", s, 0, 1, 0, 0, [][]api.Cell{row("\uFFFD"), nil}},
			{"", s, 1, 2, 1, 0, [][]api.Cell{row("^", second), nil}},
			{"", s, 1, 3, 0, 2, [][]api.Cell{row("^", second)}},
			{"", "a" + s, 1, 2, 0, 1, [][]api.Cell{row("a"), row("^", second), nil}},
			{s, "b", 1, 3, 1, 0, [][]api.Cell{row("^", second, "b"), nil}},
			{"", s + "\u0301", 1, 4, 0, 2, [][]api.Cell{row("^", second, " \u0301")}},
		})
	}
	for c := rune(128); c < 160; c++ {
		s := string(c)
		wantAll(t, []laid{
			{"", s, 2, 1, 1, 0, [][]api.Cell{row("\uFFFD"), nil}},
			{"", "a" + s, 3, 2, 1, 0, [][]api.Cell{row("a", "\uFFFD"), nil}},
			{"", s + "\u0301", 2, 3, 0, 1, [][]api.Cell{row("\uFFFD", " \u0301")}},
		})
	}
}

// TestWideInEveryColumn lays things of two cells behind so many cells, at each narrow width.
func TestWideInEveryColumn(t *testing.T) {
	things := []struct {
		text  string
		cells []api.Cell
	}{
		{"\u4e00", wide("\u4e00")}, {"\u3000", wide("\u3000")}, {"\U0001F600\u0301\u200d", wide("\U0001F600\u0301\u200d")}, {"\x02", row("^", "B")},
	}
	for _, x := range things {
		for width := 2; width <= 9; width++ {
			for ahead := range width {
				full := slices.Repeat(row("."), ahead)
				text := strings.Repeat(".", ahead) + x.text + "z"
				if ahead == width-1 {
					rows := [][]api.Cell{full, join(x.cells, row("z"))}
					if width == 2 {
						rows = [][]api.Cell{full, x.cells, row("z")}
					}
					if width == 3 {
						rows = append(rows, nil)
					}
					wantAll(t, []laid{{"", text, ahead, width, 0, width - 1, rows}})
					continue
				}
				rows := [][]api.Cell{join(full, x.cells, row("z"))}
				if ahead == width-2 {
					rows = [][]api.Cell{join(full, x.cells), row("z")}
				}
				if ahead == width-3 {
					rows = append(rows, nil)
				}
				wantAll(t, []laid{{"", text, ahead, width, 0, ahead, rows}, {text[:ahead], text[ahead:], 0, width, 0, ahead, rows}})
			}
		}
		wantAll(t, []laid{{"", "a" + x.text + "b", 1, 1, 1, 0, [][]api.Cell{row("a"), row("\uFFFD"), row("b"), nil}}})
		wantAll(t, []laid{{"", x.text + x.text, len(x.text), 1, 1, 0, [][]api.Cell{row("\uFFFD"), row("\uFFFD"), nil}}})
		wantAll(t, []laid{{"", x.text + x.text, len(x.text), 3, 0, 2, [][]api.Cell{x.cells, x.cells}}})
	}
}

// TestPromptAndTextApart has what would join if the two met.
func TestPromptAndTextApart(t *testing.T) {
	wantAll(t, []laid{
		{"\r", "\n", 0, 4, 0, 2, [][]api.Cell{row("^", "M"), nil}},
		{"", "\r\n", 0, 4, 0, 0, [][]api.Cell{nil, nil}},
		{"a", "\u0301b", 0, 4, 0, 1, [][]api.Cell{row("a", " \u0301", "b")}},
		{"a", "\u0301b", 1, 4, 0, 1, [][]api.Cell{row("a", " \u0301", "b")}},
		{"a", "\u0301b", 2, 4, 0, 2, [][]api.Cell{row("a", " \u0301", "b")}},
		{"\u4e00", "\u0301", 0, 2, 1, 0, [][]api.Cell{wide("\u4e00"), row(" \u0301")}},
		{"\u0301", "\u0301", 0, 2, 0, 1, [][]api.Cell{row(" \u0301", " \u0301"), nil}},
		{"\xe4\xb8", "\x80", 0, 9, 0, 2, [][]api.Cell{row("\uFFFD", "\uFFFD", "\uFFFD")}},
		{"\xc3", "\xa9", 1, 9, 0, 2, [][]api.Cell{row("\uFFFD", "\uFFFD")}},
		{"", "\u0301a", 0, 2, 0, 0, [][]api.Cell{row(" \u0301", "a"), nil}},
	})
}

// TestBlankEnds has blanks that were laid, and cells in which nothing was.
func TestBlankEnds(t *testing.T) {
	wantAll(t, []laid{
		{"", " ", 1, 1, 1, 0, [][]api.Cell{nil, nil}},
		{"", "   ", 3, 3, 1, 0, [][]api.Cell{nil, nil}},
		{"", "   ", 2, 9, 0, 2, [][]api.Cell{nil}},
		{"", "a  ", 3, 9, 0, 3, [][]api.Cell{row("a")}},
		{"", "a b ", 3, 9, 0, 3, [][]api.Cell{row("a", " ", "b")}},
		{"", "  a  b  ", 8, 4, 2, 0, [][]api.Cell{row(" ", " ", "a"), row(" ", "b"), nil}},
		{"", "a \u4e00", 2, 3, 0, 2, [][]api.Cell{row("a"), wide("\u4e00")}},
		{"", "  \u4e00", 2, 3, 0, 2, [][]api.Cell{nil, wide("\u4e00")}},
		{"", "a  \nb", 3, 9, 0, 3, [][]api.Cell{row("a"), row("b")}},
		{"", "a \u0301", 4, 9, 0, 2, [][]api.Cell{row("a", " \u0301")}},
		{"", "a\u00a0", 3, 9, 0, 2, [][]api.Cell{row("a", "\u00a0")}},
		{"", "a\u3000 ", 5, 9, 0, 4, [][]api.Cell{join(row("a"), wide("\u3000"))}},
		{"", "\u4e00 ", 4, 9, 0, 3, [][]api.Cell{wide("\u4e00")}},
		{"  ", "  ", 2, 9, 0, 4, [][]api.Cell{nil}},
		{"> ", "\n", 1, 9, 1, 0, [][]api.Cell{row(">"), nil}},
		{" a", " ", 1, 3, 1, 0, [][]api.Cell{row(" ", "a"), nil}},
	})
}

// TestCursors has cursors outside of the text, within a cluster, and within a character.
func TestCursors(t *testing.T) {
	text := "a\u0301\u4e00\r\n\xe4\xb8\x01" // clusters end at 3, 6, 8, 9, 10, 11
	ends := []struct{ from, row, col int }{{math.MinInt, 0, 1}, {3, 0, 2}, {6, 0, 4}, {8, 1, 0}, {9, 1, 1}, {10, 1, 2}, {11, 1, 4}}
	for _, cursor := range []int{math.MinInt, math.MinInt32, -1, 0, 1, 2, 3, 4, 5, 6, 7, 8, 9, 10, 11, 12, 99, math.MaxInt32, math.MaxInt} {
		var want api.Place
		for _, x := range ends {
			if cursor >= x.from {
				want = api.Place{Row: x.row, Col: x.col}
			}
		}
		if got := layout.Lay(">", text, cursor, 9).Cursor; got != want {
			t.Errorf("P20.1: the cursor %d is at %v, want %v", cursor, got, want)
		}
	}
	for _, cursor := range []int{math.MinInt, -1, 0, 1, math.MaxInt} {
		if got := layout.Lay("ab", "", cursor, 2).Cursor; got != (api.Place{Row: 1}) {
			t.Errorf("P20.1: the cursor %d of the empty text is at %v", cursor, got)
		}
	}
}

// theWidths has widths as they are given, by the width as which they count.
var theWidths = []struct {
	counts int
	given  []int
}{
	{1, []int{math.MinInt, math.MinInt32, -65535, -2, -1, 0, 1}},
	{2, []int{2}},
	{3, []int{3}},
	{65534, []int{65534}},
	{65535, []int{65535, 65536, 65537, 131072, 1 << 32, 1<<32 + 3, math.MaxInt}},
}

// TestWidths has widths within the bounds and outside of them, and texts that end about the end of the widest row.
func TestWidths(t *testing.T) {
	line := strings.Repeat("x", 65533)
	for _, text := range []string{"", "a\u4e00\nb", line, line + "\u4e00y", line + "x\u4e00y", line + "x\x01y", line + "xx", line + "xxx", strings.Repeat(" ", 65540) + "z"} {
		for _, x := range theWidths {
			want := plainly("", text, len(text), x.counts)
			places := layout.Places("", text, x.counts)
			for _, width := range x.given {
				got := layout.Lay("", text, len(text), width)
				if got.Width != x.counts || !alike(got, want) {
					t.Errorf("P20.1: the width %d: a text of %d bytes: the width %d, %d rows, the cursor %v, want %d rows, %v", width, len(text), got.Width, len(got.Rows), got.Cursor, len(want.Rows), want.Cursor)
				}
				lookAtForm(t, got)
				if n := layout.Rows("", text, width); n != len(want.Rows) {
					t.Errorf("P20.1: the width %d: Rows is %d, want %d", width, n, len(want.Rows))
				}
				if list := layout.Places("", text, width); list[len(list)-1] != want.Cursor || !slices.Equal(list, places) {
					t.Errorf("P20.2: the width %d doesn't count as %d in Places", width, x.counts)
				}
			}
		}
	}
}

// TestWidestRow writes down where rows of MostWidth columns end.
func TestWidestRow(t *testing.T) {
	line := strings.Repeat("x", api.MostWidth-1)
	full := slices.Repeat(row("x"), api.MostWidth-1)
	for _, width := range []int{api.MostWidth, api.MostWidth + 1, math.MaxInt} {
		wantAll(t, []laid{
			{"", line, api.MostWidth - 1, width, 0, api.MostWidth - 1, [][]api.Cell{full}},
			{"", line + "y", api.MostWidth, width, 1, 0, [][]api.Cell{join(full, row("y")), nil}},
			{"", line + "\u4e00", api.MostWidth - 1, width, 0, api.MostWidth - 1, [][]api.Cell{full, wide("\u4e00")}},
			{line, "\x01", 0, width, 0, api.MostWidth - 1, [][]api.Cell{full, row("^", "A")}},
			{line, "\n", 0, width, 0, api.MostWidth - 1, [][]api.Cell{full, nil}},
		})
	}
}

// TestLongClusters has a cluster of very many marks, and very many rows.
func TestLongClusters(t *testing.T) {
	marks := strings.Repeat("\u0301", 300000)
	wantAll(t, []laid{
		{"", "a" + marks + "b", 7, 2, 0, 0, [][]api.Cell{row("a"+marks, "b"), nil}},
		{"", "\u4e00" + marks, 7, 1, 0, 0, [][]api.Cell{row("\uFFFD"), nil}},
		{marks, "", 0, 3, 0, 1, [][]api.Cell{row(" " + marks)}},
	})
	many := strings.Repeat("a\n", 300000)
	f := layout.Lay("", many, len(many), 80)
	if len(f.Rows) != 300001 || f.Cursor != (api.Place{Row: 300000}) || layout.Rows("", many, 80) != 300001 || len(layout.Places("", many, 80)) != 600001 {
		t.Errorf("P20.1: %d rows, the cursor %v", len(f.Rows), f.Cursor)
	}
}

// TestPlacesByHand has places that are written down.
func TestPlacesByHand(t *testing.T) {
	for _, x := range []struct {
		prompt, text string
		width        int
		want         []api.Place
	}{
		{"", "", 3, []api.Place{{Row: 0, Col: 0}}},
		{"abc", "", 3, []api.Place{{Row: 1, Col: 0}}},
		{"abc", "", 0, []api.Place{{Row: 3, Col: 0}}},
		{">", "a\u4e00\n", 3, []api.Place{{Row: 0, Col: 1}, {Row: 0, Col: 2}, {Row: 1, Col: 2}, {Row: 2, Col: 0}}},
		{"", "a\u0301b\r\nc", 3, []api.Place{{Row: 0, Col: 0}, {Row: 0, Col: 1}, {Row: 0, Col: 2}, {Row: 1, Col: 0}, {Row: 1, Col: 1}}},
		{"", "\u4e00\x01a\xff", 1, []api.Place{{Row: 0, Col: 0}, {Row: 1, Col: 0}, {Row: 2, Col: 0}, {Row: 3, Col: 0}, {Row: 4, Col: 0}}},
		{"", "ab\n", 2, []api.Place{{Row: 0, Col: 0}, {Row: 0, Col: 1}, {Row: 1, Col: 0}, {Row: 2, Col: 0}}},
		{"x", "\u0301\u0301", 4, []api.Place{{Row: 0, Col: 1}, {Row: 0, Col: 2}}},
	} {
		if got := layout.Places(x.prompt, x.text, x.width); !slices.Equal(got, x.want) {
			t.Errorf("P20.2: Places(%q, %q, %d): %v, want %v", x.prompt, x.text, x.width, got, x.want)
		}
	}
}
