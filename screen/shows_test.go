package screen_test

import (
	"slices"
	"testing"

	"bodkin/api"
	"bodkin/screen"
)

// shown answers a screen of 4 by 4 and the frame of the three rows that it shows.
func shown() (*screen.Screen, api.Frame) {
	s := screen.New(4, 4)
	s.Feed("ab\x1b[2;1Hx\u4e00\u0301\x1b[3;1He\x1b[2;4H")
	return s, api.Frame{Width: 4, Rows: rows(row("a", "b"), join(row("x"), wide("\u4e00\u0301")), row("e")), Cursor: at(1, 3)}
}

// TestShows has a frame that is shown, with fewer blank rows below it or more, and ones that differ from it in one thing.
func TestShows(t *testing.T) {
	s, f := shown()
	longer := f
	longer.Rows = append(slices.Clone(f.Rows), nil)
	empty := f
	empty.Rows = append(slices.Clone(f.Rows), []api.Cell{})
	for i, g := range []api.Frame{f, longer, empty, s.Frame(3), s.Frame(4), s.Frame(99)} {
		if !s.Shows(g) {
			t.Errorf("P22.5: the frame %d is shown: %v", i, g)
		}
	}
	one := func(i int, cells ...api.Cell) func(*api.Frame) {
		return func(g *api.Frame) { g.Rows[i] = cells }
	}
	cell := func(i, j int, c api.Cell) func(*api.Frame) {
		return func(g *api.Frame) { g.Rows[i][j] = c }
	}
	for i, change := range []func(*api.Frame){
		func(g *api.Frame) { g.Width = 3 },
		func(g *api.Frame) { g.Width = 5 },
		func(g *api.Frame) { g.Width = 0 },
		func(g *api.Frame) { g.Width = -4 },
		func(g *api.Frame) { g.Cursor.Row = 0 },
		func(g *api.Frame) { g.Cursor.Row = 2 },
		func(g *api.Frame) { g.Cursor.Col = 2 },
		func(g *api.Frame) { g.Cursor.Col = 4 },
		func(g *api.Frame) { g.Cursor = at(3, 1) },
		func(g *api.Frame) { g.Rows = nil },
		func(g *api.Frame) { g.Rows = g.Rows[:1] },
		func(g *api.Frame) { g.Rows = g.Rows[:2] },
		func(g *api.Frame) { g.Rows = g.Rows[1:] },
		func(g *api.Frame) { g.Rows = append(g.Rows, nil, nil) },
		func(g *api.Frame) { g.Rows = append(g.Rows, make([][]api.Cell, 99)...) },
		func(g *api.Frame) { g.Rows = append(g.Rows, row("y")) },
		func(g *api.Frame) { g.Rows = append(g.Rows, row(" ")) },
		func(g *api.Frame) { g.Rows = append([][]api.Cell{nil}, g.Rows...) },
		func(g *api.Frame) { g.Rows[0], g.Rows[2] = g.Rows[2], g.Rows[0] },
		one(0), one(2),
		one(0, row("a")...), one(0, row("a", "b", " ")...), one(0, row("a", "b", " ", " ")...), one(0, row("a", "b", "c")...), one(0, row("a", "b", "")...),
		one(0, join(row("a", "b"), []api.Cell{{}})...), one(0, join(row("a", "b"), []api.Cell{{Text: " "}})...),
		one(2, row("e", " ")...), one(2, row(" ", "e")...), one(2, row("e\u0301")...),
		cell(0, 0, api.Cell{Text: "b", Span: 1}), cell(0, 0, api.Cell{Text: "a", Span: 2}), cell(0, 0, api.Cell{Text: "a"}), cell(0, 1, blank), cell(0, 1, api.Cell{}),
		cell(1, 1, api.Cell{Text: "\u4e00", Span: 2}), cell(1, 1, api.Cell{Text: "\u4e00\u0301", Span: 1}), cell(1, 1, api.Cell{Text: "\u4e01\u0301", Span: 2}),
		cell(1, 2, blank), cell(1, 2, api.Cell{Span: 1}), cell(1, 2, api.Cell{Text: "x"}), cell(1, 2, api.Cell{Text: "\u4e00\u0301"}),
		one(1, join(row("x"), wide("\u4e00\u0301")[:1])...),
	} {
		_, g := shown()
		change(&g)
		if s.Shows(g) {
			t.Errorf("P22.5: the change %d is not shown: %v", i, g)
		}
	}
	if s.Shows(api.Frame{}) || s.Shows(api.Frame{Width: 4}) {
		t.Error("P22.5: a frame without rows is shown")
	}
}

// TestShowsBlank has blank screens, with the cursor above the last row and on it.
func TestShowsBlank(t *testing.T) {
	s := screen.New(3, 2)
	for _, x := range []struct {
		bytes string
		p     api.Place
		least int
	}{
		{"", at(0, 0), 1}, {"\n", at(1, 0), 2}, {"  \r", at(1, 0), 2}, {"\x1b[;3H", at(0, 2), 1},
	} {
		s.Feed(x.bytes)
		for n := range 4 {
			f := api.Frame{Width: 3, Rows: make([][]api.Cell, n), Cursor: x.p}
			if got := s.Shows(f); got != (n >= x.least && n <= 2) {
				t.Errorf("P22.5: behind %q a frame of %d rows: %v", x.bytes, n, got)
			}
		}
	}
}

// TestShowsLeaves has the frame that is handed in as it was, and with it the screen.
func TestShowsLeaves(t *testing.T) {
	s, f := shown()
	for i := range f.Rows {
		cells := append(f.Rows[i], api.Cell{Text: "spare", Span: 9})
		f.Rows[i] = cells[:len(cells)-1]
	}
	_, kept := shown()
	s.Shows(f)
	if !alike(f, kept) {
		t.Errorf("R3: the frame has become %v", f)
	}
	for _, cells := range f.Rows {
		if more := cells[:len(cells)+1][len(cells)]; more.Text != "spare" || more.Span != 9 {
			t.Errorf("R3: the spare room behind %v has changed", cells)
		}
	}
	f.Rows[0][0].Text = "#"
	if !s.Shows(kept) {
		t.Error("R3: the screen keeps the frame")
	}
}
