package screen_test

import (
	"math"
	"strconv"
	"testing"

	"bodkin/api"
	"bodkin/screen"
)

// resized is what is to be seen behind bytes, a new width, and more bytes.
type resized struct {
	from   int
	ahead  string
	to     int
	behind string
	rows   [][]api.Cell
	cursor api.Place
	full   bool
	held   int
}

// TestResize has narrower and wider screens, in each case that the chapter names.
func TestResize(t *testing.T) {
	for i, x := range []resized{
		{4, "abcd\x1b[2Hx", 3, "", rows(row("a", "b", "c"), row("x")), at(1, 1), false, 0},
		{4, "abcd\x1b[2Hx", 1, "", rows(row("a"), row("x")), at(1, 0), false, 0},
		{4, "ab", 9, "", rows(row("a", "b"), nil), at(0, 2), false, 0},
		{4, "ab  c\x1b[1;3H", 3, "", rows(row("a", "b"), row("c")), at(0, 2), false, 0},
		{4, "a  d", 3, "", rows(row("a"), nil), at(0, 2), false, 0},
		// Through a wide thing, and beside one.
		{4, "ab\u4e00", 3, "", rows(row("a", "b"), nil), at(0, 2), false, 0},
		{4, "ab\u4e00", 2, "", rows(row("a", "b"), nil), at(0, 1), false, 0},
		{4, "\u4e00\u4e01", 3, "", rows(wide("\u4e00"), nil), at(0, 2), false, 0},
		{4, "\u4e00\u4e01", 2, "", rows(wide("\u4e00"), nil), at(0, 1), false, 0},
		{4, "\u4e00\u4e01", 1, "", rows(nil, nil), at(0, 0), false, 0},
		{4, "\u4e00\u4e01", 1, "\u4e02", rows(row("\uFFFD"), nil), at(0, 0), true, 0},
		{1, "\u4e00", 3, "\u4e02", rows(wide("\u4e02"), nil), at(0, 2), false, 0},
		// The cursor beyond the last column, and FULL.
		{4, "abcd", 4, "", rows(row("a", "b", "c", "d"), nil), at(0, 3), false, 0},
		{4, "abcd", 4, "x", rows(row("a", "b", "c", "x"), nil), at(0, 3), true, 0},
		{4, "abcd", 3, "x", rows(row("a", "b", "x"), nil), at(0, 2), true, 0},
		{4, "abcd", 5, "x", rows(row("a", "b", "c", "x"), nil), at(0, 4), false, 0},
		{4, "abcd\x08", 3, "", rows(row("a", "b", "c"), nil), at(0, 2), false, 0},
		{4, "\x1b[2;4H", 2, "", rows(nil, nil), at(1, 1), false, 0},
		{4, "\x1b[2;2H", 2, "", rows(nil, nil), at(1, 1), false, 0},
		{4, "\x1b[2;1H", 2, "", rows(nil, nil), at(1, 0), false, 0},
		{3, "abc", 2, "\u4e00", rows(row("a", "b"), wide("\u4e00")), at(1, 1), true, 0},
		// A mark next.
		{4, "e", 4, "\u0301", rows(row("e"), nil), at(0, 1), false, 0},
		{4, "e", 5, "\u0301\u0301", rows(row("e"), nil), at(0, 1), false, 0},
		{4, "e\u0300", 3, "\u0301", rows(row("e\u0300"), nil), at(0, 1), false, 0},
		{4, "e\xcc", 3, "\x81", rows(row("e"), nil), at(0, 1), false, 0},
		{4, "e", 3, "f\u0301", rows(row("e", "f\u0301"), nil), at(0, 2), false, 0},
		{4, "abcd", 2, "\u0301", rows(row("a", "b"), nil), at(0, 1), false, 0},
		// With bytes held back.
		{4, "a\x1b", 3, "", rows(row("a"), nil), at(0, 1), false, 1},
		{4, "a\x1b[2;", 6, "6Hx", rows(row("a"), row(" ", " ", " ", " ", " ", "x")), at(1, 5), true, 0},
		{6, "a\x1b[2;6", 3, "Hx", rows(row("a"), row(" ", " ", "x")), at(1, 2), true, 0},
		{4, "a\x1b[", 3, "", rows(row("a"), nil), at(0, 1), false, 2},
		{4, "a\x1b[?12", 3, "\nb", rows(row("a"), row(" ", "b")), at(1, 2), false, 0},
		{4, "a\xe4\xb8", 3, "", rows(row("a"), nil), at(0, 1), false, 2},
		{4, "a\xe4\xb8", 3, "\x80", rows(join(row("a"), wide("\u4e00")), nil), at(0, 2), true, 0},
		{4, "a\xe4\xb8", 2, "\x80", rows(row("a"), wide("\u4e00")), at(1, 1), true, 0},
		{4, "a\xe4\xb8", 1, "\x80", rows(row("\uFFFD"), nil), at(0, 0), true, 0},
		{4, "a\xf0\x9f\x98", 3, "b", rows(row("a", "\uFFFD", "\uFFFD"), row("\uFFFD", "b")), at(1, 2), false, 0},
		// A width below 1.
		{4, "abcd", 0, "", rows(row("a"), nil), at(0, 0), false, 0},
		{4, "abcd", -3, "x", rows(row("x"), nil), at(0, 0), true, 0},
		{4, "abcd", math.MinInt, "xy", rows(row("x"), row("y")), at(1, 0), true, 0},
	} {
		s := screen.New(x.from, 2)
		s.Feed(x.ahead)
		s.Resize(x.to)
		s.Feed(x.behind)
		want := api.Frame{Width: max(x.to, 1), Rows: x.rows, Cursor: x.cursor}
		if got := s.Frame(2); !alike(got, want) || s.Width() != want.Width || s.Height() != 2 || s.Full() != x.full || s.Held() != x.held {
			t.Errorf("P22.6: the case %d: %v, FULL %v, %d held; want %v, %v, %d", i, got, s.Full(), s.Held(), want, x.full, x.held)
		}
		p := newTerminal(x.from, 2)
		p.feed(x.ahead)
		p.resize(max(x.to, 1))
		p.feed(x.behind)
		wantAs(t, "the case "+strconv.Itoa(i), s, p)
	}
}

// TestResizeWidest has widths up to MostWidth and above it.
func TestResizeWidest(t *testing.T) {
	for _, x := range []struct{ n, want int }{{65534, 65534}, {65535, 65535}, {65536, 65535}, {1 << 32, 65535}, {math.MaxInt, 65535}} {
		s := screen.New(3, 2)
		s.Feed("abc")
		s.Resize(x.n)
		s.Feed("\x1b[2;99999Hx")
		if s.Width() != x.want || s.Cursor() != at(1, x.want-1) || !s.Full() {
			t.Errorf("P22.6: Resize(%d): %d columns, the cursor %v", x.n, s.Width(), s.Cursor())
		}
		s.Resize(4)
		if got := s.Frame(2); !alike(got, api.Frame{Width: 4, Rows: rows(row("a", "b", "c"), nil), Cursor: at(1, 3)}) {
			t.Errorf("P22.6: Resize(%d), and Resize(4): %v", x.n, got)
		}
	}
}

// TestResizeBack has a screen that is made narrow and wide again: what was cut off is gone.
func TestResizeBack(t *testing.T) {
	for narrow := 1; narrow < 8; narrow++ {
		s, p := screen.New(7, 3), newTerminal(7, 3)
		for _, bytes := range []string{"ab\u4e00cd\u4e01\u4e02 e\u0301f\n", "\x1b[2;4H\x1b[K", "", "\u4e00x\n\u4e00", "\x1b[1;3H\x1b[K"} {
			s.Feed(bytes)
			p.feed(bytes)
			for _, to := range []int{narrow, 7} {
				s.Resize(to)
				p.resize(to)
				wantAs(t, "narrow and wide again", s, p)
			}
		}
	}
}

// TestResizeMixed has widths that change among mixed texts.
func TestResizeMixed(t *testing.T) {
	next := numbers(6)
	for range 3000 {
		wide, high := 1+next(9), 1+next(4)
		s, p := screen.New(wide, high), newTerminal(wide, high)
		for range 12 {
			bytes := mixed(next, next(10))
			s.Feed(bytes)
			p.feed(bytes)
			wantAs(t, name(p.wide, high, bytes), s, p)
			to := 1 + next(9)
			s.Resize(to)
			p.resize(to)
			wantAs(t, name(to, high, bytes)+", resized", s, p)
		}
	}
}
