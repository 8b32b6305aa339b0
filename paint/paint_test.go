package paint_test

import (
	"math"
	"slices"
	"strings"
	"testing"

	"bodkin/api"
	"bodkin/paint"
)

func TestGoto(t *testing.T) {
	numbers := []struct {
		n    int
		want string
	}{
		{math.MinInt, "1"}, {math.MinInt32, "1"}, {-2, "1"}, {-1, "1"}, {0, "1"}, {1, "2"}, {8, "9"}, {9, "10"}, {10, "11"}, {98, "99"}, {99, "100"}, {254, "255"}, {255, "256"},
		{65534, "65535"}, {65535, "65536"}, {65536, "65537"}, {999999, "1000000"}, {1073741822, "1073741823"}, {1073741823, "1073741824"}, {1073741824, "1073741825"},
		{1073741825, "1073741825"}, {1073741826, "1073741825"}, {math.MaxInt32, "1073741825"}, {1 << 32, "1073741825"}, {math.MaxInt - 1, "1073741825"}, {math.MaxInt, "1073741825"},
	}
	for _, r := range numbers {
		for _, c := range numbers {
			wantText(t, "P21.1: Goto", paint.Goto(api.Place{Row: r.n, Col: c.n}), "\x1b["+r.want+";"+c.want+"H")
		}
	}
}

// TestRow has rows of any cells, which are never looked at but for their Texts.
func TestRow(t *testing.T) {
	for _, x := range []struct {
		cells []api.Cell
		want  string
	}{
		{nil, ""}, {[]api.Cell{}, ""}, {[]api.Cell{{}}, ""}, {row("a"), "a"}, {row("a", "b"), "ab"}, {row(" ", " "), "  "}, {wide("\u4e00", "\u4e01"), "\u4e00\u4e01"},
		{[]api.Cell{{Text: "a", Span: 0}, {Text: "b", Span: -7}, {Text: "c", Span: 2}, {Text: "d", Span: math.MaxInt}}, "abcd"},
		{row("\xe4", "\xb8\x80", "\xff"), "\u4e00\xff"}, {row("\x1b[J", "\r\n", "\x00"), "\x1b[J\r\n\x00"}, {row("\u0301", "", "\u0301"), "\u0301\u0301"}, {row("long", "er", " "), "longer "},
		{slices.Repeat(row("ab"), 100000), strings.Repeat("ab", 100000)},
	} {
		wantText(t, "P21.1: Row", paint.Row(x.cells), x.want)
	}
	everyRow(2, func(cells []api.Cell) {
		wantText(t, "P21.1: Row", paint.Row(cells), texts(cells))
	})
}

func TestFull(t *testing.T) {
	const cleared = "\x1b[m\x1b[H\x1b[J"
	for _, x := range []struct {
		f    api.Frame
		want string
	}{
		{frame(1, 0, 0, nil), cleared + "\x1b[1;1H"},
		{frame(1, 0, 0, []api.Cell{}), cleared + "\x1b[1;1H"},
		{frame(9, 0, 8, nil), cleared + "\x1b[1;9H"},
		{frame(9, 3, 0, nil, nil, nil, nil), cleared + "\x1b[4;1H"},
		{frame(1, 0, 0, row("a")), cleared + "\x1b[1;1Ha\x1b[1;1H"},
		{frame(3, 0, 2, row("a", "b", "c")), cleared + "\x1b[1;1Habc\x1b[1;3H"},
		{frame(3, 1, 0, row("a", "b", "c"), nil), cleared + "\x1b[1;1Habc\x1b[2;1H"},
		{frame(2, 1, 1, row("a", "b"), row("c", "d"), row("e")), cleared + "\x1b[1;1Hab\x1b[2;1Hcd\x1b[3;1He\x1b[2;2H"},
		{frame(5, 0, 0, nil, row(" ", "x"), nil, wide("\u4e00")), cleared + "\x1b[2;1H x\x1b[4;1H\u4e00\x1b[1;1H"},
		{frame(4, 0, 0, wide("\u4e00", "\u4e01")), cleared + "\x1b[1;1H\u4e00\u4e01\x1b[1;1H"},
		{frame(3, 0, 1, row("e\u0301", " \u0301", "\ufffd")), cleared + "\x1b[1;1He\u0301 \u0301\ufffd\x1b[1;2H"},
		{frame(9, 11, 0, append(make([][]api.Cell, 11), row("x"))...), cleared + "\x1b[12;1Hx\x1b[12;1H"},
		{api.Frame{}, ""},
		{frame(0, 0, 0, nil), ""},
		{frame(3, 0, 3, row("a")), ""},
		{frame(3, 1, 0, row("a")), ""},
		{frame(3, 0, 0, row("a"), row(" ")), ""},
	} {
		wantText(t, "P21.2: Full", paint.Full(x.f), x.want)
	}
}

// painted is two frames and what Next answers of them.
type painted struct {
	shown, f api.Frame
	want     string
}

// wantNext asks for those answers.
func wantNext(t *testing.T, list []painted) {
	t.Helper()
	for _, x := range list {
		if got := paint.Next(x.shown, x.f); got != x.want {
			t.Errorf("P21.3: Next(%v, %v): %q, want %q", x.shown, x.f, got, x.want)
		}
	}
}

// TestNextRows has a row that becomes the same, a longer, a shorter one, one without cells, and a full one.
func TestNextRows(t *testing.T) {
	one := func(cells []api.Cell) api.Frame { return frame(4, 0, 1, cells) }
	none, short, long, full, other := row(), row("a"), row("a", "b", "c"), row("a", "b", "c", "d"), row("a", "b", "c", "e")
	wantNext(t, []painted{
		{one(none), one(none), "\x1b[1;2H"},
		{one(nil), one([]api.Cell{}), "\x1b[1;2H"},
		{one([]api.Cell{}), one(nil), "\x1b[1;2H"},
		{one(short), one(short), "\x1b[1;2H"},
		{one(full), one(full), "\x1b[1;2H"},
		{one(none), one(short), "\x1b[1;1Ha\x1b[K\x1b[1;2H"},
		{one(short), one(none), "\x1b[1;1H\x1b[K\x1b[1;2H"},
		{one(short), one(long), "\x1b[1;1Habc\x1b[K\x1b[1;2H"},
		{one(long), one(short), "\x1b[1;1Ha\x1b[K\x1b[1;2H"},
		{one(none), one(full), "\x1b[1;1Habcd\x1b[1;2H"},
		{one(full), one(none), "\x1b[1;1H\x1b[K\x1b[1;2H"},
		{one(long), one(full), "\x1b[1;1Habcd\x1b[1;2H"},
		{one(full), one(long), "\x1b[1;1Habc\x1b[K\x1b[1;2H"},
		{one(full), one(other), "\x1b[1;1Habce\x1b[1;2H"},
		{one(wide("\u4e00")), one(wide("\u4e01")), "\x1b[1;1H\u4e01\x1b[K\x1b[1;2H"},
		{one(wide("\u4e00", "\u4e00")), one(wide("\u4e00", "\u4e01")), "\x1b[1;1H\u4e00\u4e01\x1b[1;2H"},
		{one(wide("\u4e00", "\u4e00")), one(join(row("x"), wide("\u4e00"))), "\x1b[1;1Hx\u4e00\x1b[K\x1b[1;2H"},
		{one(row("e")), one(row("e\u0301")), "\x1b[1;1He\u0301\x1b[K\x1b[1;2H"},
		{one(row(" ", "a")), one(row(" \u0301", "a")), "\x1b[1;1H \u0301a\x1b[K\x1b[1;2H"},
		{one(row("\u00a0")), one(row("\u2000")), "\x1b[1;1H\u2000\x1b[K\x1b[1;2H"},
		{frame(1, 0, 0, row("a")), frame(1, 0, 0, row("b")), "\x1b[1;1Hb\x1b[1;1H"},
		{frame(1, 0, 0, row("a")), frame(1, 0, 0, nil), "\x1b[1;1H\x1b[K\x1b[1;1H"},
	})
}

// TestNextMoreRows has more rows than are shown, fewer, and rows that change among others that don't.
func TestNextMoreRows(t *testing.T) {
	a, b, full := row("a"), row("b"), row("x", "y", "z")
	wantNext(t, []painted{
		{frame(3, 0, 0, a), frame(3, 1, 0, a, nil), "\x1b[2;1H\x1b[K\x1b[2;1H"},
		{frame(3, 0, 0, a), frame(3, 0, 2, a, nil, b, full), "\x1b[2;1H\x1b[K\x1b[3;1Hb\x1b[K\x1b[4;1Hxyz\x1b[1;3H"},
		{frame(3, 0, 0, a), frame(3, 2, 2, b, a, nil), "\x1b[1;1Hb\x1b[K\x1b[2;1Ha\x1b[K\x1b[3;1H\x1b[K\x1b[3;3H"},
		{frame(3, 1, 0, a, nil), frame(3, 0, 0, a), "\x1b[2;1H\x1b[J\x1b[1;1H"},
		{frame(3, 3, 0, a, b, nil, full), frame(3, 0, 1, a), "\x1b[2;1H\x1b[J\x1b[1;2H"},
		{frame(3, 3, 0, a, b, nil, full), frame(3, 1, 0, a, a), "\x1b[2;1Ha\x1b[K\x1b[3;1H\x1b[J\x1b[2;1H"},
		{frame(3, 0, 0, nil, nil, nil), frame(3, 0, 0, nil), "\x1b[2;1H\x1b[J\x1b[1;1H"},
		{frame(3, 0, 0, nil), frame(3, 0, 0, nil, nil, nil), "\x1b[2;1H\x1b[K\x1b[3;1H\x1b[K\x1b[1;1H"},
		{frame(3, 0, 0, a, b, full), frame(3, 0, 0, b, a, full), "\x1b[1;1Hb\x1b[K\x1b[2;1Ha\x1b[K\x1b[1;1H"},
		{frame(3, 0, 0, a, b, full), frame(3, 0, 0, a, full, full), "\x1b[2;1Hxyz\x1b[1;1H"},
		{frame(3, 0, 0, a, full, b), frame(3, 2, 2, nil, full, nil), "\x1b[1;1H\x1b[K\x1b[3;1H\x1b[K\x1b[3;3H"},
		{frame(3, 0, 0, a, b), frame(3, 1, 2, a, b), "\x1b[2;3H"},
	})
}

// TestNextFully has frames of which the next one is painted whole, or not at all.
func TestNextFully(t *testing.T) {
	f := theExample()
	full := paint.Full(f)
	unlike := frame(5, 2, 3, f.Rows...)
	list := []painted{{unlike, f, full}, {f, unlike, fully(unlike)}, {frame(3, 0, 0, row("a", "b")), f, full}, {frame(65535, 2, 3, f.Rows...), f, full}}
	for _, bad := range unfitFrames() {
		list = append(list, painted{bad, f, full}, painted{f, bad, ""}, painted{unlike, bad, ""}, painted{bad, unlike, fully(unlike)}, painted{bad, bad, ""})
		for _, worse := range unfitFrames() {
			list = append(list, painted{bad, worse, ""})
		}
	}
	wantNext(t, list)
}

// unfitFrames has frames that differ from the chapter's example in one thing alone, by which they aren't fit.
func unfitFrames() []api.Frame {
	var list []api.Frame
	add := func(change func(*api.Frame)) {
		f := theExample()
		change(&f)
		list = append(list, f)
	}
	for _, width := range []int{0, -1, 3, 65536} {
		add(func(f *api.Frame) { f.Width = width })
	}
	for _, p := range []api.Place{{Row: -1, Col: 3}, {Row: 3, Col: 3}, {Row: 2, Col: -1}, {Row: 2, Col: 4}, {Row: math.MinInt}, {Col: math.MaxInt}} {
		add(func(f *api.Frame) { f.Cursor = p })
	}
	add(func(f *api.Frame) { f.Rows, f.Cursor = nil, api.Place{} })
	add(func(f *api.Frame) { f.Rows[0] = row("a", "b", " ") })
	add(func(f *api.Frame) { f.Rows[1] = row(" ") })
	add(func(f *api.Frame) { f.Rows[2] = join(f.Rows[2], row("e")) })
	add(func(f *api.Frame) { f.Rows[1] = []api.Cell{{}} })
	add(func(f *api.Frame) { f.Rows[2] = f.Rows[2][1:] })
	add(func(f *api.Frame) { f.Rows[2] = join(f.Rows[2][:1], f.Rows[2][2:]) })
	for _, text := range []string{"", "cd", "c\x01", "\x01", "\n", "\xff", "c\xff", "\u0301", "\u4e00", "\u0085"} {
		add(func(f *api.Frame) { f.Rows[2][2].Text = text })
	}
	for _, span := range []int{-1, 0, 2, 3} {
		add(func(f *api.Frame) { f.Rows[2][2].Span = span })
		add(func(f *api.Frame) { f.Rows[2][3].Span = span })
	}
	for _, span := range []int{-1, 0, 1, 3} {
		add(func(f *api.Frame) { f.Rows[2][0].Span = span })
	}
	for _, c := range []api.Cell{{Text: "x"}, {Span: 1}, {Span: 2}, {Span: -1}, {Text: "\u4e00"}, {Text: "x", Span: 1}} {
		add(func(f *api.Frame) { f.Rows[2][1] = c })
	}
	return list
}

// TestUnfit asks for those frames not to be fit.
func TestUnfit(t *testing.T) {
	for _, f := range unfitFrames() {
		if wantFit(t, f) {
			t.Errorf("P21.1: %v is not fit", f)
		}
	}
}

// TestNextAlike has rows that are alike in their Texts alone or in their Spans alone, or only as one text.
func TestNextAlike(t *testing.T) {
	f := frame(4, 0, 0, row("a"), wide("\u4e00"))
	full := "\x1b[m\x1b[H\x1b[J\x1b[1;1Ha\x1b[2;1H\u4e00\x1b[1;1H"
	wantNext(t, []painted{
		{frame(4, 0, 0, []api.Cell{{Text: "a", Span: 2}}, wide("\u4e00")), f, full},
		{frame(4, 0, 0, row("a"), row("\u4e00", "")), f, full},
		{frame(4, 0, 0, row("a"), row("\u4e00")), f, full},
		{frame(4, 0, 0, row("a"), wide("\u4e01")), f, "\x1b[2;1H\u4e00\x1b[K\x1b[1;1H"},
		{frame(4, 0, 0, row("b"), wide("\u4e00")), f, "\x1b[1;1Ha\x1b[K\x1b[1;1H"},
		{frame(4, 0, 0, row("b"), wide("\u4e01")), f, "\x1b[1;1Ha\x1b[K\x1b[2;1H\u4e00\x1b[K\x1b[1;1H"},
		{frame(4, 0, 0, row("ab")), frame(4, 0, 0, row("a", "b")), "\x1b[m\x1b[H\x1b[J\x1b[1;1Hab\x1b[1;1H"},
		{frame(4, 0, 0, row("a", "b")), frame(4, 0, 0, row("ab")), ""},
		{f, frame(4, 0, 0, row("a"), row("\u4e00", "")), ""},
		{f, frame(4, 0, 0, []api.Cell{{Text: "a", Span: 2}}, wide("\u4e00")), ""},
	})
}
