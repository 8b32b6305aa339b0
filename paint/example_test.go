package paint_test

import (
	"testing"

	"bodkin/api"
	"bodkin/layout"
	"bodkin/paint"
)

// row answers a row of cells with Span 1, one for each text.
func row(texts ...string) []api.Cell {
	var list []api.Cell
	for _, s := range texts {
		list = append(list, api.Cell{Text: s, Span: 1})
	}
	return list
}

// wide answers a row of wide things with their right halves.
func wide(texts ...string) []api.Cell {
	var list []api.Cell
	for _, s := range texts {
		list = append(list, api.Cell{Text: s, Span: 2}, api.Cell{})
	}
	return list
}

// join answers the rows as one.
func join(rows ...[]api.Cell) []api.Cell {
	var list []api.Cell
	for _, r := range rows {
		list = append(list, r...)
	}
	return list
}

// frame answers a frame of those rows, with the cursor at that row and column.
func frame(width, cursorRow, col int, rows ...[]api.Cell) api.Frame {
	return api.Frame{Width: width, Rows: rows, Cursor: api.Place{Row: cursorRow, Col: col}}
}

// theExample is the chapter's frame f.
func theExample() api.Frame {
	return frame(4, 2, 3, row("a", "b"), nil, join(wide("\u4e00"), row("c", "d")))
}

// wantText asks for an answer.
func wantText(t *testing.T, name, got, want string) {
	t.Helper()
	if got != want {
		t.Errorf("%s: %q, want %q", name, got, want)
	}
}

// TestExamples has the chapter's examples, as they stand there.
func TestExamples(t *testing.T) {
	f := theExample()
	g := frame(4, 0, 0, row("a", "b"), row("x"))
	wantText(t, "P21.2: Full(f)", paint.Full(f), "\x1b[m\x1b[H\x1b[J\x1b[1;1Hab\x1b[3;1H\u4e00cd\x1b[3;4H")
	wantText(t, "P21.3: Next(f, g)", paint.Next(f, g), "\x1b[2;1Hx\x1b[K\x1b[3;1H\x1b[J\x1b[1;1H")
	wantText(t, "P21.3: Next(g, f)", paint.Next(g, f), "\x1b[2;1H\x1b[K\x1b[3;1H\u4e00cd\x1b[3;4H")
	wantText(t, "P21.5: Next(f, f)", paint.Next(f, f), "\x1b[3;4H")
}

// TestFitExamples has the chapter's frames that are fit and that aren't.
func TestFitExamples(t *testing.T) {
	with := func(change func(*api.Frame)) api.Frame {
		f := theExample()
		change(&f)
		return f
	}
	first := func(cells ...api.Cell) api.Frame {
		return with(func(f *api.Frame) { f.Rows[0] = cells })
	}
	for i, f := range []api.Frame{
		with(func(f *api.Frame) { f.Width = 0 }),
		with(func(f *api.Frame) { f.Rows = nil }),
		first(join(row("a"), row(" "))...),
		first(row("a", "b", "c", "d", "e")...),
		first(row("\u4e00")...),
		first(row("ab")...),
		first(row("\x01")...),
		first(row("")...),
		first(wide("a")...),
		first(api.Cell{Text: "\u4e00", Span: 2}),
		first(api.Cell{Text: "\u4e00", Span: 2}, api.Cell{Text: "a", Span: 1}),
		first(api.Cell{}, api.Cell{Text: "a", Span: 1}),
		with(func(f *api.Frame) { f.Cursor = api.Place{Row: 3, Col: 0} }),
		with(func(f *api.Frame) { f.Cursor = api.Place{Row: 0, Col: 4} }),
		with(func(f *api.Frame) { f.Cursor = api.Place{Row: -1, Col: 0} }),
	} {
		if paint.Fit(f) || paint.Full(f) != "" || paint.Next(theExample(), f) != "" {
			t.Errorf("P21.1: the example %d is not fit: %v", i, f)
		}
	}
	for i, f := range []api.Frame{
		theExample(),
		first(row(" \u0301")...),
		with(func(f *api.Frame) { f.Cursor = api.Place{Row: 1, Col: 3} }),
	} {
		if !paint.Fit(f) || paint.Full(f) == "" {
			t.Errorf("P21.1: the example %d is fit: %v", i, f)
		}
	}
}

// TestReadme has what README.md shows of this package.
func TestReadme(t *testing.T) {
	f := layout.Lay("> ", "ab\u4e00", 2, 5)
	if !paint.Fit(f) {
		t.Errorf("P21.1: %v is fit", f)
	}
	wantText(t, "P21.2: Full", paint.Full(f), "\x1b[m\x1b[H\x1b[J"+"\x1b[1;1H> ab"+"\x1b[2;1H\u4e00"+"\x1b[1;5H")
	g := layout.Lay("> ", "ab", 2, 5)
	wantText(t, "P21.3: Next", paint.Next(f, g), "\x1b[2;1H\x1b[J"+"\x1b[1;5H")
	g = layout.Lay("> ", "abc", 3, 5)
	wantText(t, "P21.3: Next", paint.Next(f, g), "\x1b[1;1H> abc"+"\x1b[2;1H\x1b[K"+"\x1b[2;1H")
	wantText(t, "P21.3: Next", paint.Next(api.Frame{}, g), paint.Full(g))
	wantText(t, "P21.1: Row", paint.Row(f.Rows[0]), "> ab")
	wantText(t, "P21.1: Goto", paint.Goto(api.Place{Row: 1, Col: 4}), "\x1b[2;5H")
}
