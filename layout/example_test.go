package layout_test

import (
	"testing"

	"bodkin/api"
	"bodkin/layout"
)

// row answers a row of cells with Span 1, one for each text.
func row(texts ...string) []api.Cell {
	var list []api.Cell
	for _, s := range texts {
		list = append(list, api.Cell{Text: s, Span: 1})
	}
	return list
}

// wide answers a row of the one wide thing and its right half.
func wide(text string) []api.Cell {
	return []api.Cell{{Text: text, Span: 2}, {Text: "", Span: 0}}
}

// join answers the rows as one.
func join(rows ...[]api.Cell) []api.Cell {
	var list []api.Cell
	for _, r := range rows {
		list = append(list, r...)
	}
	return list
}

// laid is a frame that is asked for.
type laid struct {
	prompt, text   string
	cursor, width  int
	cursorRow, col int
	rows           [][]api.Cell
}

// wantAll asks for the frames, and for as many Rows.
func wantAll(t *testing.T, list []laid) {
	t.Helper()
	for _, x := range list {
		want := api.Frame{Width: min(max(x.width, 1), 65535), Rows: x.rows, Cursor: api.Place{Row: x.cursorRow, Col: x.col}}
		if got := layout.Lay(x.prompt, x.text, x.cursor, x.width); !alike(got, want) {
			t.Errorf("P20.1: Lay(%q, %q, %d, %d): %v, want %v", x.prompt, x.text, x.cursor, x.width, got, want)
		}
		if got := layout.Rows(x.prompt, x.text, x.width); got != len(x.rows) {
			t.Errorf("P20.1: Rows(%q, %q, %d): %d, want %d", x.prompt, x.text, x.width, got, len(x.rows))
		}
	}
}

// TestExamples has the chapter's examples, as they stand there.
func TestExamples(t *testing.T) {
	wantAll(t, []laid{
		{"> ", "ab", 1, 5, 0, 3, [][]api.Cell{row(">", " ", "a", "b")}},
		{"", "abc", 3, 3, 1, 0, [][]api.Cell{row("a", "b", "c"), nil}},
		{"", "abc\nd", 3, 3, 1, 0, [][]api.Cell{row("a", "b", "c"), nil, row("d")}},
		{"", "abc\nd", 4, 3, 2, 0, [][]api.Cell{row("a", "b", "c"), nil, row("d")}},
		{"", "a\u4e00", 1, 2, 0, 1, [][]api.Cell{row("a"), wide("\u4e00"), nil}},
		{"", "\u4e00", 0, 1, 0, 0, [][]api.Cell{row("\uFFFD"), nil}},
		{"", "\x01", 1, 3, 0, 2, [][]api.Cell{row("^", "A")}},
		{"", "ab\x01", 2, 3, 0, 2, [][]api.Cell{row("a", "b"), row("^", "A")}},
		{"x", "\u0301", 0, 4, 0, 1, [][]api.Cell{row("x", " \u0301")}},
		{"a ", "", 0, 4, 0, 2, [][]api.Cell{row("a")}},
		{"", "", 7, 0, 0, 0, [][]api.Cell{nil}},
		{"", "\xff\u0301", 9, 2, 0, 1, [][]api.Cell{row("\uFFFD\u0301")}},
	})
}
