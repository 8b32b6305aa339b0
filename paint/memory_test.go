package paint_test

import (
	"testing"
	"unsafe"

	"bodkin/api"
	"bodkin/paint"
)

// roomy answers the rows in memory with spare room that has cells in it, and their Texts over the bytes that follow one another in one array.
func roomy(f api.Frame) (api.Frame, []byte) {
	var bytes []byte
	for _, cells := range f.Rows {
		bytes = append(bytes, texts(cells)...)
	}
	spare := api.Cell{Text: "spare", Span: 9}
	at := 0
	rows := make([][]api.Cell, 0, len(f.Rows)+2)
	for _, cells := range f.Rows {
		own := make([]api.Cell, 0, len(cells)+2)
		for _, c := range cells {
			piece := bytes[at : at+len(c.Text)]
			own = append(own, api.Cell{Text: unsafe.String(unsafe.SliceData(piece), len(piece)), Span: c.Span})
			at += len(piece)
		}
		rows = append(rows, append(own, spare, spare)[:len(own)])
	}
	f.Rows = append(rows, []api.Cell{spare}, []api.Cell{spare})[:len(rows)]
	return f, bytes
}

// wantLeft asks for g, which roomy made of f, to be as it was, its spare room too.
func wantLeft(t *testing.T, g, f api.Frame) {
	t.Helper()
	rows := g.Rows[:len(f.Rows)+2]
	for i, cells := range rows {
		if i >= len(f.Rows) {
			if len(cells) != 1 || cells[0].Text != "spare" || cells[0].Span != 9 {
				t.Fatalf("P21.5: the spare room behind the rows of %v has changed", f)
			}
			continue
		}
		if !alikeRows(cells, f.Rows[i]) {
			t.Fatalf("P21.5: the row %v has become %v", f.Rows[i], cells)
		}
		for _, c := range cells[:len(cells)+2][len(cells):] {
			if c.Text != "spare" || c.Span != 9 {
				t.Fatalf("P21.5: the spare room behind the row %v has changed", cells)
			}
		}
	}
	if g.Width != f.Width || g.Cursor != f.Cursor || len(g.Rows) != len(f.Rows) {
		t.Fatalf("P21.5: %v has become %v", f, g)
	}
}

// memoryFrames has frames of every kind.
func memoryFrames() []api.Frame {
	return append(unfitFrames(),
		theExample(), frame(4, 0, 0, nil), frame(4, 0, 0, row("a", "b"), row("x")), frame(4, 1, 3, row("a\u0301"), wide("\u4e00", "\u4e01\u0301")),
		frame(1, 0, 0, row("a")), frame(1, 0, 0, row("b")), frame(4, 0, 0, row("a", "b", "c", "d"), nil, nil, row("e")), api.Frame{},
	)
}

// TestLeftAsItIs hands in frames of which each byte and each cell is looked at behind the calls.
func TestLeftAsItIs(t *testing.T) {
	for _, shown := range memoryFrames() {
		for _, f := range memoryFrames() {
			a, _ := roomy(shown)
			b, _ := roomy(f)
			paint.Fit(b)
			paint.Full(b)
			paint.Next(a, b)
			paint.Next(b, b)
			for _, cells := range b.Rows {
				paint.Row(cells)
			}
			wantLeft(t, a, shown)
			wantLeft(t, b, f)
		}
	}
}

// TestAnswersAreNew writes over the Texts' bytes behind the calls.
func TestAnswersAreNew(t *testing.T) {
	for _, shown := range memoryFrames() {
		for _, f := range memoryFrames() {
			a, ones := roomy(shown)
			b, others := roomy(f)
			full, next := paint.Full(b), paint.Next(a, b)
			var rows []string
			for _, cells := range b.Rows {
				rows = append(rows, paint.Row(cells))
			}
			for _, room := range [][]byte{ones, others} {
				for i := range room {
					room[i] = '#'
				}
			}
			if full != fully(f) || next != nextly(shown, f) {
				t.Fatalf("R3: Full or Next of %v keeps its bytes: %q, %q", f, full, next)
			}
			for i, s := range rows {
				if s != texts(f.Rows[i]) {
					t.Fatalf("R3: Row of %v keeps its bytes: %q", f.Rows[i], s)
				}
			}
		}
	}
}

// TestOneMemory has two frames that share their rows, and rows that are one.
func TestOneMemory(t *testing.T) {
	shared := row("a", "b", "c")
	f := frame(3, 0, 0, shared, shared[:2], shared[1:])
	g := f
	g.Cursor.Col, g.Rows = 2, f.Rows[1:]
	wantText(t, "P21.3: Next", paint.Next(f, g), "\x1b[1;1Hab\x1b[K\x1b[2;1Hbc\x1b[K\x1b[3;1H\x1b[J\x1b[1;3H")
	wantText(t, "P21.3: Next", paint.Next(g, f), "\x1b[1;1Habc\x1b[2;1Hab\x1b[K\x1b[3;1Hbc\x1b[K\x1b[1;1H")
	wantText(t, "P21.5: Next", paint.Next(f, f), "\x1b[1;1H")
}
