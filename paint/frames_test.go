package paint_test

import (
	"slices"
	"strings"
	"testing"

	"bodkin/api"
	"bodkin/layout"
	"bodkin/paint"
	"bodkin/screen"
)

// pieces has clusters of every kind, and what joins with a neighbour or is cut through.
var pieces = []string{
	"a", "b", "\u4e00", " ", "\n", "a\u0301", " \u0301", "\r\n", "\r", "\x00", "\x1b", "\x1b[J", "\x7f", "\u0085",
	"\u3000", "\U0001F600\u0301", "\u0301", "\u200d", "\xff", "\xff\u0301", "\xe4\xb8", "\u00e9", "\uFFFD",
}

// numbers answers numbers that look mixed, the same ones at each run.
func numbers(seed uint64) func(below int) int {
	return func(below int) int {
		seed = seed*6364136223846793005 + 1442695040888963407
		return int(seed>>33) % below
	}
}

// mixed answers a text of n pieces, most of them the first few.
func mixed(next func(int) int, n int) string {
	var s strings.Builder
	for range n {
		if next(3) > 0 {
			s.WriteString(pieces[next(5)])
		} else {
			s.WriteString(pieces[next(len(pieces))])
		}
	}
	return s.String()
}

// before has bytes that came before: some leave something begun, some the cursor behind a full row, some nothing.
var before = []string{
	"", "a", "\x1b", "\x1b[", "\x1b[1", "\x1b[3;", "\xe4\xb8", "\xf0\x9f\x98", "ab\u4e00\u4e01\r\n\u4e00x\n\n\ny\x08\x1b[2;2Hz", "\x1b[9;9H", "\x1b[2;1H\u4e00\u4e01\u4e02",
	strings.Repeat("x", 20), strings.Repeat("\u4e00", 10), strings.Repeat("x", 200), strings.Repeat("\n", 30) + "e\u0301", "\x1b[K\x1b[J\x1b[m\x1b[5n", "e\xcc",
}

// lookAtFull asks for what Full answers, and for what a screen then shows, whatever it was given before.
func lookAtFull(t *testing.T, f api.Frame) {
	t.Helper()
	if !paint.Fit(f) {
		t.Fatalf("P21.1: %v is fit", f)
	}
	got := paint.Full(f)
	if got != fully(f) {
		t.Fatalf("P21.2: Full(%v): %q, want %q", f, got, fully(f))
	}
	for _, s := range before {
		for _, more := range []int{0, 1, 3} {
			x := screen.New(f.Width, len(f.Rows)+more)
			x.Feed(s)
			x.Feed(got)
			if !x.Shows(f) || x.Held() != 0 {
				t.Fatalf("P21.4: behind %q and Full(%v) on %d rows it shows %v", s, f, x.Height(), x.Frame(x.Height()))
			}
		}
	}
}

// lookAtNext asks for what Next answers, and for what a screen then shows that showed the frame shown.
func lookAtNext(t *testing.T, shown, f api.Frame) {
	t.Helper()
	got := paint.Next(shown, f)
	if got != nextly(shown, f) {
		t.Fatalf("P21.3: Next(%v, %v): %q, want %q", shown, f, got, nextly(shown, f))
	}
	if shown.Width != f.Width {
		return
	}
	for _, more := range []int{0, 2} {
		for _, way := range []func(*screen.Screen, api.Frame){
			func(x *screen.Screen, g api.Frame) { x.Feed(fully(g)) },
			paintOver,
		} {
			x := screen.New(f.Width, max(len(f.Rows), len(shown.Rows))+more)
			way(x, shown)
			if !x.Shows(shown) || x.Held() != 0 {
				t.Fatalf("the screen doesn't show %v", shown)
			}
			x.Feed(got)
			if !x.Shows(f) || x.Held() != 0 {
				t.Fatalf("P21.4: behind %v and Next of %v on %d rows it shows %v", shown, f, x.Height(), x.Frame(x.Height()))
			}
		}
	}
}

// paintOver lets a screen show f that is full of wide things at first, and lets the cursor stand behind a full row where it can.
func paintOver(x *screen.Screen, f api.Frame) {
	x.Feed(strings.Repeat("\u4e00", x.Width()*x.Height()))
	for i := range x.Height() {
		x.Feed(to(i, 0) + "\x1b[K")
		if i < len(f.Rows) {
			x.Feed(texts(f.Rows[i]))
		}
	}
	x.Feed(to(f.Cursor.Row, f.Cursor.Col))
	cells := f.Rows[f.Cursor.Row]
	if last := len(cells) - 1; len(cells) == f.Width && f.Cursor.Col == last && cells[last].Span == 1 {
		x.Feed(cells[last].Text)
		if !x.Full() {
			panic("the cell that was written isn't the last one")
		}
	}
}

// TestLaid has the frames that Lay answers, one painted over the other.
func TestLaid(t *testing.T) {
	next := numbers(21)
	var shown api.Frame
	for i := range 3000 {
		prompt, text := "", mixed(next, next(14))
		if next(2) == 0 {
			prompt = mixed(next, next(4))
		}
		f := layout.Lay(prompt, text, next(len(text)+2)-1, 1+i/500+next(2))
		lookAtFull(t, f)
		if i > 0 {
			lookAtNext(t, shown, f)
			lookAtNext(t, f, shown)
		}
		lookAtNext(t, f, f)
		shown = f
	}
}

// TestEdited has the frames of a text that is edited in one place, step by step, on one screen.
func TestEdited(t *testing.T) {
	for seed := range uint64(60) {
		next := numbers(seed)
		width := 1 + next(9)
		text := mixed(next, 10)
		shown := layout.Lay("> ", text, 0, width)
		x := screen.New(width, 80)
		x.Feed(paint.Full(shown))
		for range 40 {
			at, cut := next(len(text)+1), next(3)
			text = text[:at] + mixed(next, next(3)) + text[min(at+cut, len(text)):]
			f := layout.Lay("> ", text, at, width)
			if len(f.Rows) > x.Height() {
				break
			}
			out := paint.Next(shown, f)
			if want := nextly(shown, f); out != want {
				t.Fatalf("P21.3: Next(%v, %v): %q, want %q", shown, f, out, want)
			}
			x.Feed(out)
			if !x.Shows(f) {
				t.Fatalf("P21.4: behind Next(%v, %v) it shows %v", shown, f, x.Frame(x.Height()))
			}
			shown = f
		}
	}
}

// TestAnythingBefore has any bytes ahead of what Full paints, and ones that change nothing that is seen ahead of what Next paints.
func TestAnythingBefore(t *testing.T) {
	next := numbers(4)
	for range 4000 {
		width := 1 + next(8)
		bytes := make([]byte, next(60))
		for i := range bytes {
			bytes[i] = byte(next(256))
			if next(2) == 0 {
				bytes[i] = "ab \n\x1b[2;HJKm\xe4\xb8\x80\xcc\x81"[next(17)]
			}
		}
		text := mixed(next, next(14))
		shown, f := layout.Lay("> ", text, next(len(text)+1), width), layout.Lay("", mixed(next, next(14)), 0, width)
		x := screen.New(width, max(len(shown.Rows), len(f.Rows))+next(3))
		x.Feed(string(bytes))
		x.Feed(paint.Full(shown))
		if !x.Shows(shown) || x.Held() != 0 {
			t.Fatalf("P21.4: behind %q and Full(%v) it shows %v", bytes, shown, x.Frame(x.Height()))
		}
		x.Feed([]string{"", "\x1b[m", "\x1bc", "\x07", "\x1b[5n\u0301", "\x1b[\x00"}[next(6)])
		x.Feed(paint.Next(shown, f))
		if !x.Shows(f) || x.Held() != 0 {
			t.Fatalf("P21.4: behind Next(%v, %v) it shows %v", shown, f, x.Frame(x.Height()))
		}
	}
}

// fitRows has the rows of at most that many cells that a frame of so many columns may have.
func fitRows(width, most int) [][]api.Cell {
	list := [][]api.Cell{nil}
	var grow func(cells []api.Cell)
	grow = func(cells []api.Cell) {
		for _, more := range [][]api.Cell{row(" "), row("a"), row("b\u0301"), wide("\u4e00"), wide("\u4e01\u0301")} {
			longer := join(cells, more)
			if len(longer) > min(width, most) {
				continue
			}
			if longer[len(longer)-1] != blank {
				list = append(list, longer)
			}
			grow(longer)
		}
	}
	grow(nil)
	return list
}

// TestRowOverRow paints every short row over every other one, at the widths at which they are full and at others.
func TestRowOverRow(t *testing.T) {
	for width := 1; width < 6; width++ {
		list := fitRows(width, 3)
		for i, a := range list {
			for j, b := range list {
				shown, f := frame(width, 0, j%width, a, row("a")), frame(width, j%2, width-1, b, row("a"))
				lookAtNext(t, shown, f)
				if got := paint.Next(shown, f); (i == j) != (got == to(j%2, width-1)) {
					t.Fatalf("P21.3: Next(%v, %v): %q", shown, f, got)
				}
			}
			lookAtFull(t, frame(width, 1, i%width, a, a))
		}
	}
}

// fitFrame answers a frame of mixed rows, with its cursor anywhere.
func fitFrame(next func(int) int, width int, rows [][]api.Cell) api.Frame {
	f := api.Frame{Width: width}
	for range 1 + next(5) {
		f.Rows = append(f.Rows, rows[next(len(rows))])
	}
	f.Cursor = api.Place{Row: next(len(f.Rows)), Col: next(width)}
	return f
}

// TestMixedFrames has frames that no Lay answers, painted over one another; some rows are often the same.
func TestMixedFrames(t *testing.T) {
	for width := 1; width < 7; width++ {
		next := numbers(uint64(width))
		rows := fitRows(width, 4)
		for range 1500 {
			some := [][]api.Cell{rows[next(len(rows))], rows[next(len(rows))], nil, row("z")}
			shown, f := fitFrame(next, width, some), fitFrame(next, width, some)
			lookAtNext(t, shown, f)
			if next(10) == 0 {
				lookAtFull(t, f)
				lookAtNext(t, fitFrame(next, width+1, some), f)
			}
		}
	}
}

// anyFrame answers a frame that may be fit: most of its things are.
func anyFrame(next func(int) int) api.Frame {
	f := frame(2+next(3), next(3), next(3))
	for range 2 + next(2) {
		var cells []api.Cell
		for range next(4) {
			switch next(10) {
			case 0:
				cells = append(cells, someCells[next(len(someCells))])
			case 1, 2:
				cells = append(cells, wide("\u4e00")...)
			case 3:
				cells = append(cells, blank)
			default:
				cells = append(cells, someCells[0])
			}
		}
		f.Rows = append(f.Rows, cells)
	}
	return f
}

// TestMixedCells holds Fit, Full and Next against the plain answers for frames of any cells.
func TestMixedCells(t *testing.T) {
	next := numbers(5)
	fit, both := 0, 0
	for range 100000 {
		a, b := anyFrame(next), anyFrame(next)
		if wantFit(t, a) {
			fit++
			if isFit(b) && a.Width == b.Width {
				both++
			}
		}
		if got := paint.Next(a, b); got != nextly(a, b) {
			t.Fatalf("P21.3: Next(%v, %v): %q, want %q", a, b, got, nextly(a, b))
		}
	}
	if fit < 10000 || fit > 90000 || both < 1000 {
		t.Errorf("of the frames %d are fit, and of the pairs %d, which is too few or too many to tell much", fit, both)
	}
}

// TestWidest has the widest rows, and very many rows.
func TestWidest(t *testing.T) {
	full := slices.Repeat(row("x"), api.MostWidth)
	f, g := frame(api.MostWidth, 0, 0, full, nil), frame(api.MostWidth, 1, api.MostWidth-1, full[1:], full)
	lookAtNext(t, f, g)
	lookAtNext(t, g, f)
	many := slices.Repeat([][]api.Cell{row("a"), nil}, 100000)
	last := slices.Clone(many)
	last[len(last)-1] = row("b")
	shown, h := frame(1, 0, 0, many...), frame(1, 199999, 0, last...)
	wantText(t, "P21.3: Next", paint.Next(shown, h), "\x1b[200000;1Hb\x1b[200000;1H")
	wantText(t, "P21.3: Next", paint.Next(h, shown), "\x1b[200000;1H\x1b[K\x1b[1;1H")
	wantText(t, "P21.3: Next", paint.Next(shown, frame(1, 0, 0, row("a"))), "\x1b[2;1H\x1b[J\x1b[1;1H")
	if got := paint.Full(h); got != fully(h) {
		t.Errorf("P21.2: Full of many rows has %d bytes, want %d", len(got), len(fully(h)))
	}
}
