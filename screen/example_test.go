package screen_test

import (
	"slices"
	"testing"

	"bodkin/api"
	"bodkin/layout"
	"bodkin/paint"
	"bodkin/screen"
)

// row answers a row of cells with Span 1, one for each text.
func row(texts ...string) []api.Cell {
	var list []api.Cell
	for _, s := range texts {
		list = append(list, api.Cell{Text: s, Span: 1})
	}
	return list
}

// wide answers a row of wide things with their right halves.
func wide(texts ...string) []api.Cell {
	var list []api.Cell
	for _, s := range texts {
		list = append(list, api.Cell{Text: s, Span: 2}, api.Cell{})
	}
	return list
}

// join answers the rows as one.
func join(rows ...[]api.Cell) []api.Cell {
	var list []api.Cell
	for _, r := range rows {
		list = append(list, r...)
	}
	return list
}

// rows answers the rows as a list.
func rows(list ...[]api.Cell) [][]api.Cell {
	return list
}

// at answers a place.
func at(row, col int) api.Place {
	return api.Place{Row: row, Col: col}
}

// seen is what is to be seen behind bytes on a screen of a width and as many rows as it has.
type seen struct {
	width  int
	bytes  string
	rows   [][]api.Cell
	cursor api.Place
	full   bool
	held   int
}

// look asks for it, of the plain terminal too, with all bytes at once and one by one.
func (x seen) look(t *testing.T) {
	t.Helper()
	whole, single := screen.New(x.width, len(x.rows)), screen.New(x.width, len(x.rows))
	whole.Feed(x.bytes)
	for i := range len(x.bytes) {
		single.Feed(x.bytes[i : i+1])
	}
	want := api.Frame{Width: x.width, Rows: x.rows, Cursor: x.cursor}
	for _, s := range []*screen.Screen{whole, single} {
		if got := s.Frame(len(x.rows)); !alike(got, want) || s.Cursor() != x.cursor || s.Full() != x.full || s.Held() != x.held || !s.Shows(want) {
			t.Errorf("P22.2: behind %q on %d by %d: %v, FULL %v, %d held; want %v, %v, %d", x.bytes, x.width, len(x.rows), got, s.Full(), s.Held(), want, x.full, x.held)
		}
	}
	p := newTerminal(x.width, len(x.rows))
	p.feed(x.bytes)
	wantAs(t, x.bytes, whole, p)
}

// TestExamples has the chapter's examples, as they stand there.
func TestExamples(t *testing.T) {
	for _, x := range []seen{
		{3, "abc", rows(row("a", "b", "c"), nil), at(0, 2), true, 0},
		{3, "abcd", rows(row("a", "b", "c"), row("d")), at(1, 1), false, 0},
		{3, "abc\rX", rows(row("X", "b", "c"), nil), at(0, 1), false, 0},
		{3, "ab\u4e00", rows(row("a", "b"), wide("\u4e00")), at(1, 2), false, 0},
		{3, "a\u4e00", rows(join(row("a"), wide("\u4e00")), nil), at(0, 2), true, 0},
		{3, "a\u4e00\x08", rows(join(row("a"), wide("\u4e00")), nil), at(0, 1), false, 0},
		{3, "a\u4e00\x08x", rows(row("a", "x"), nil), at(0, 2), false, 0},
		{3, "abcdefg", rows(row("d", "e", "f"), row("g")), at(1, 1), false, 0},
		{3, "e\u0301", rows(row("e\u0301"), nil), at(0, 1), false, 0},
		{3, "e\r\u0301", rows(row("e"), nil), at(0, 0), false, 0},
		{3, "a\x1b[2;9Hb", rows(row("a"), row(" ", " ", "b")), at(1, 2), true, 0},
		{3, "abc\x1b[K", rows(row("a", "b"), nil), at(0, 2), true, 0},
		{3, "abc\x1b[Kd", rows(row("a", "b"), row("d")), at(1, 1), false, 0},
		{3, "\x1b[1", rows(nil, nil), at(0, 0), false, 3},
		{3, "\x1b[1m", rows(nil, nil), at(0, 0), false, 0},
		{3, "\x1b[1\x1b[2;2Hx", rows(nil, row(" ", "x")), at(1, 2), false, 0},
		{3, "\xe4\xb8", rows(nil, nil), at(0, 0), false, 2},
		{3, "\xe4\xb8a", rows(row("\uFFFD", "\uFFFD", "a"), nil), at(0, 2), true, 0},
		{3, "\x1bcx", rows(row("x"), nil), at(0, 1), false, 0},
	} {
		x.look(t)
	}
}

// TestReadme has what README.md shows of this package.
func TestReadme(t *testing.T) {
	s := screen.New(5, 3)
	s.Feed("> ab\u4e00c\x1b[1;5")
	if !slices.Equal(s.Frame(1).Rows[0], row(">", " ", "a", "b")) || s.Rows() != 2 || s.Held() != 5 {
		t.Errorf("P22.2: %v, %d rows, %d held", s.Frame(1), s.Rows(), s.Held())
	}
	s.Feed("Hx")
	if s.Cursor() != at(0, 4) || !s.Full() {
		t.Errorf("P22.3: the cursor %v, FULL %v", s.Cursor(), s.Full())
	}
	f, g := layout.Lay("> ", "ab\u4e00", 2, 5), layout.Lay("> ", "ab", 2, 5)
	s.Feed(paint.Full(f))
	if !s.Shows(f) {
		t.Errorf("P21.4: %v, want %v", s.Frame(3), f)
	}
	c := s.Clone()
	c.Feed(paint.Next(f, g))
	if !c.Shows(g) || !s.Shows(f) {
		t.Errorf("P21.4: %v, want %v", c.Frame(3), g)
	}
	s.Resize(3)
	if got := s.Frame(2); !alike(got, api.Frame{Width: 3, Rows: rows(row(">", " ", "a"), wide("\u4e00")), Cursor: at(0, 2)}) {
		t.Errorf("P22.6: %v", got)
	}
}
