package screen_test

import (
	"math"
	"strings"
	"testing"

	"bodkin/api"
	"bodkin/screen"
)

// TestNew has widths and heights at their bounds and outside of them.
func TestNew(t *testing.T) {
	for _, x := range []struct{ n, want int }{
		{math.MinInt, 1}, {-65535, 1}, {-1, 1}, {0, 1}, {1, 1}, {2, 2}, {80, 80}, {65534, 65534}, {65535, 65535}, {65536, 65535}, {1 << 32, 65535}, {math.MaxInt, 65535},
	} {
		for _, s := range []*screen.Screen{screen.New(x.n, 3), screen.New(3, x.n)} {
			if s.Width() != x.want && s.Height() != x.want || s.Width() != 3 && s.Height() != 3 {
				t.Errorf("P22.1: New of %d and 3: %d by %d", x.n, s.Width(), s.Height())
			}
			if s.Cursor() != at(0, 0) || s.Full() || s.Held() != 0 || s.Rows() != 1 {
				t.Errorf("P22.1: New of %d: the cursor %v, FULL %v, %d held, %d rows", x.n, s.Cursor(), s.Full(), s.Held(), s.Rows())
			}
		}
		if s := screen.New(x.n, 3); s.Width() != x.want || s.Height() != 3 {
			t.Errorf("P22.1: New(%d, 3): %d by %d", x.n, s.Width(), s.Height())
		}
		s := screen.New(3, x.n)
		f := s.Frame(math.MaxInt)
		if len(f.Rows) != x.want || f.Width != 3 || f.Cursor != at(0, 0) {
			t.Errorf("P22.4: New(3, %d) has a frame of %d rows", x.n, len(f.Rows))
		}
		for i, cells := range f.Rows {
			if len(cells) != 0 {
				t.Errorf("P22.1: the row %d of a new screen has %v", i, cells)
			}
		}
	}
}

// TestFull has what comes with FULL set: what leaves it, what clears it, and what is then written where.
func TestFull(t *testing.T) {
	abc := row("a", "b", "c")
	for _, x := range []seen{
		{3, "abc", rows(abc, nil), at(0, 2), true, 0},
		{3, "abc\x00", rows(abc, nil), at(0, 2), false, 0},
		{3, "abc\x00x", rows(row("a", "b", "x"), nil), at(0, 2), true, 0},
		{3, "abc\x07\u4e00", rows(abc, wide("\u4e00")), at(1, 2), false, 0},
		{3, "abc\x08", rows(abc, nil), at(0, 1), false, 0},
		{3, "abc\x08x", rows(row("a", "x", "c"), nil), at(0, 2), false, 0},
		{3, "abc\t", rows(abc, nil), at(0, 2), false, 0},
		{3, "abc\n", rows(abc, nil), at(1, 2), false, 0},
		{3, "abc\nx", rows(abc, row(" ", " ", "x")), at(1, 2), true, 0},
		{3, "abc\r", rows(abc, nil), at(0, 0), false, 0},
		{3, "abc\x1f", rows(abc, nil), at(0, 2), false, 0},
		{3, "abc\x7f", rows(abc, nil), at(0, 2), false, 0},
		{3, "abc\u0080", rows(abc, nil), at(0, 2), false, 0},
		{3, "abc\u009fx", rows(row("a", "b", "x"), nil), at(0, 2), true, 0},
		{3, "abc\u00a0", rows(abc, row("\u00a0")), at(1, 1), false, 0},
		{3, "abc\u0301", rows(row("a", "b", "c\u0301"), nil), at(0, 2), true, 0},
		{3, "abc\u0301d", rows(row("a", "b", "c\u0301"), row("d")), at(1, 1), false, 0},
		{3, "abc\xff", rows(abc, row("\uFFFD")), at(1, 1), false, 0},
		{3, "abc\u4e00", rows(abc, wide("\u4e00")), at(1, 2), false, 0},
		{3, "abc ", rows(abc, nil), at(1, 1), false, 0},
		{3, "abc\xe4\xb8", rows(abc, nil), at(0, 2), true, 2},
		{3, "abc\x1b", rows(abc, nil), at(0, 2), true, 1},
		{3, "abc\x1bcd", rows(abc, row("d")), at(1, 1), false, 0},
		{3, "abc\x1b\nd", rows(abc, row("d")), at(1, 1), false, 0},
		{3, "abc\x1b\u0085d", rows(abc, row("\uFFFD", "d")), at(1, 2), false, 0},
		{3, "abc\x1b[\x1b[md", rows(abc, row("d")), at(1, 1), false, 0},
		{3, "abc\x1b[\x00d", rows(row("a", "b", "d"), nil), at(0, 2), true, 0},
		{3, "abc\x1b[1\x7fd", rows(row("a", "b", "d"), nil), at(0, 2), true, 0},
		{3, "abc\x1b[1\u00e9", rows(abc, row("\u00e9")), at(1, 1), false, 0},
		{3, "abc\x1b[m", rows(abc, nil), at(0, 2), true, 0},
		{3, "abc\x1b[1;31m", rows(abc, nil), at(0, 2), true, 0},
		{3, "abc\x1b[?m", rows(abc, nil), at(0, 2), true, 0},
		{3, "abc\x1b[J", rows(row("a", "b"), nil), at(0, 2), true, 0},
		{3, "abc\x1b[1J", rows(abc, nil), at(0, 2), true, 0},
		{3, "abc\x1b[;J", rows(abc, nil), at(0, 2), true, 0},
		{3, "abc\x1b[?K", rows(abc, nil), at(0, 2), true, 0},
		{3, "abc\x1b[K", rows(row("a", "b"), nil), at(0, 2), true, 0},
		{3, "abc\x1b[0;0K", rows(abc, nil), at(0, 2), true, 0},
		{3, "abc\x1b[H", rows(abc, nil), at(0, 0), false, 0},
		{3, "abc\x1b[1;3H", rows(abc, nil), at(0, 2), false, 0},
		{3, "abc\x1b[1;3Hx", rows(row("a", "b", "x"), nil), at(0, 2), true, 0},
		{3, "abc\x1b[?H", rows(abc, nil), at(0, 2), false, 0},
		{3, "abc\x1b[1;2;3Hx", rows(row("a", "b", "x"), nil), at(0, 2), true, 0},
		{3, "abc\x1b[@", rows(abc, nil), at(0, 2), false, 0},
		{3, "abc\x1b[A", rows(abc, nil), at(0, 2), false, 0},
		{3, "abc\x1b[~x", rows(row("a", "b", "x"), nil), at(0, 2), true, 0},
		{1, "a", rows(row("a"), nil), at(0, 0), true, 0},
		{1, "a\x08b", rows(row("b"), nil), at(0, 0), true, 0},
		{1, "a\rb", rows(row("b"), nil), at(0, 0), true, 0},
		{1, "ab", rows(row("a"), row("b")), at(1, 0), true, 0},
		{1, "abc", rows(row("b"), row("c")), at(1, 0), true, 0},
	} {
		x.look(t)
	}
}

// TestWide has wide things at the last column, over halves of others, and on narrow screens.
func TestWide(t *testing.T) {
	for _, x := range []seen{
		{4, "\u4e00\u4e01", rows(wide("\u4e00", "\u4e01"), nil), at(0, 3), true, 0},
		{4, "\u4e00\u4e01\u4e02", rows(wide("\u4e00", "\u4e01"), wide("\u4e02")), at(1, 2), false, 0},
		{4, "abc\u4e00", rows(row("a", "b", "c"), wide("\u4e00")), at(1, 2), false, 0},
		{4, "abcd\x1b[1;4H\u4e00", rows(row("a", "b", "c", "d"), wide("\u4e00")), at(1, 2), false, 0},
		{4, "\u4e00\u4e01\x1b[1;4H\u4e02", rows(wide("\u4e00", "\u4e01"), wide("\u4e02")), at(1, 2), false, 0},
		{4, "\u4e00\rx", rows(row("x"), nil), at(0, 1), false, 0},
		{4, "\u4e00\x08x", rows(row(" ", "x"), nil), at(0, 2), false, 0},
		{4, "\u4e00\r ", rows(nil, nil), at(0, 1), false, 0},
		{4, "\u4e00\x08 ", rows(nil, nil), at(0, 2), false, 0},
		{4, "\u4e00\u4e01\x1b[1;2H\u4e02", rows(join(row(" "), wide("\u4e02")), nil), at(0, 3), false, 0},
		{4, "\u4e00\u4e01\x1b[1;2Hxy", rows(row(" ", "x", "y"), nil), at(0, 3), false, 0},
		{4, "a\u4e00b\x1b[1;1H\u4e01", rows(join(wide("\u4e01"), row(" ", "b")), nil), at(0, 2), false, 0},
		{4, "a\u4e00b\x1b[1;2H\u4e01", rows(join(row("a"), wide("\u4e01"), row("b")), nil), at(0, 3), false, 0},
		{4, "a\u4e00b\x1b[1;3H\u4e01", rows(join(row("a", " "), wide("\u4e01")), nil), at(0, 3), true, 0},
		{4, "\u4e00\u4e01\r\u4e02", rows(wide("\u4e02", "\u4e01"), nil), at(0, 2), false, 0},
		{4, "\u4e00\u4e01\x1b[1;2H\x1b[K", rows(nil, nil), at(0, 1), false, 0},
		{4, "\u4e00\u4e01\x1b[1;3H\x1b[K", rows(wide("\u4e00"), nil), at(0, 2), false, 0},
		{4, "\u4e00\u4e01\x1b[1;4H\x1b[K", rows(wide("\u4e00"), nil), at(0, 3), false, 0},
		{4, "\u4e00\u4e01\x1b[1;4H\x1b[J", rows(wide("\u4e00"), nil), at(0, 3), false, 0},
		{4, "\u4e00\u0301\u200dx", rows(join(wide("\u4e00\u0301\u200d"), row("x")), nil), at(0, 3), false, 0},
		{2, "\u4e00", rows(wide("\u4e00"), nil), at(0, 1), true, 0},
		{2, "\u4e00\u4e01", rows(wide("\u4e00"), wide("\u4e01")), at(1, 1), true, 0},
		{2, "a\u4e00", rows(row("a"), wide("\u4e00")), at(1, 1), true, 0},
		{2, "\u4e00\x08x", rows(row("x"), nil), at(0, 1), false, 0},
		{2, "\u4e00\x1b[1;2Hx", rows(row(" ", "x"), nil), at(0, 1), true, 0},
		{2, "\u4e00\x07\u4e01", rows(wide("\u4e00"), wide("\u4e01")), at(1, 1), true, 0},
		{1, "\u4e00", rows(row("\uFFFD"), nil), at(0, 0), true, 0},
		{1, "\u4e00\u4e01", rows(row("\uFFFD"), row("\uFFFD")), at(1, 0), true, 0},
		{1, "\u4e00\u0301", rows(row("\uFFFD\u0301"), nil), at(0, 0), true, 0},
	} {
		x.look(t)
	}
}

// TestDown has the last row, where all rows move up.
func TestDown(t *testing.T) {
	for _, x := range []seen{
		{3, "a\nb", rows(row("a"), row(" ", "b")), at(1, 2), false, 0},
		{3, "a\nb\n", rows(row(" ", "b"), nil), at(1, 2), false, 0},
		{3, "a\nb\nc", rows(row(" ", "b"), row(" ", " ", "c")), at(1, 2), true, 0},
		{3, "a\nb\n\n\n", rows(nil, nil), at(1, 2), false, 0},
		{3, "a\nb\n\n\nc", rows(nil, row(" ", " ", "c")), at(1, 2), true, 0},
		{3, "\n\n\n", rows(nil, nil), at(1, 0), false, 0},
		{3, "a\x1b[2H\n", rows(nil, nil), at(1, 0), false, 0},
		{3, "a\x1b[2H\nb", rows(nil, row("b")), at(1, 1), false, 0},
		{3, "a\x1b[2Hbcd\u4e00", rows(row("b", "c", "d"), wide("\u4e00")), at(1, 2), false, 0},
		{3, "a\x1b[2;3H\u4e00\u0301", rows(nil, wide("\u4e00\u0301")), at(1, 2), false, 0},
		{3, "a\x1b[2Hbcdx\u0301", rows(row("b", "c", "d"), row("x\u0301")), at(1, 1), false, 0},
		{3, "a\nb\x1b[1;2H\nc", rows(row("a"), row(" ", "c")), at(1, 2), false, 0},
		{3, "ab\n", rows(nil), at(0, 2), false, 0},
		{3, "abcd", rows(row("d")), at(0, 1), false, 0},
		{3, "abc\u4e00", rows(wide("\u4e00")), at(0, 2), false, 0},
		{3, "ab\u4e00", rows(wide("\u4e00")), at(0, 2), false, 0},
		{1, "abc\n", rows(nil), at(0, 0), false, 0},
		{2, "a\x1b[3;1Hc\x1b[2;2Hb\n\n", rows(row(" ", "b"), row("c"), nil), at(2, 1), false, 0},
	} {
		x.look(t)
	}
}

// TestMarks has marks behind the cell that was written last, and behind anything else, in pieces.
func TestMarks(t *testing.T) {
	list := []seen{
		{3, "\u0301", rows(nil, nil), at(0, 0), false, 0},
		{3, "\u0301a", rows(row("a"), nil), at(0, 1), false, 0},
		{3, "a\u0301\u0300\u200d\ufe0f\U0001F3FB\U000E0100", rows(row("a\u0301\u0300\u200d\ufe0f\U0001F3FB\U000E0100"), nil), at(0, 1), false, 0},
		{3, "a\u0301b\u0300", rows(row("a\u0301", "b\u0300"), nil), at(0, 2), false, 0},
		{3, "ab\r\u0301", rows(row("a", "b"), nil), at(0, 0), false, 0},
		{3, " \u0301", rows(row(" \u0301"), nil), at(0, 1), false, 0},
		{3, "a  \u0301", rows(row("a", " ", " \u0301"), nil), at(0, 2), true, 0},
		{3, "abc\x1b[1;2H \u0301", rows(row("a", " \u0301", "c"), nil), at(0, 2), false, 0},
		{3, "\xff\u0301\u0301", rows(row("\uFFFD\u0301\u0301"), nil), at(0, 1), false, 0},
		{3, "\xe4\xb8\u0301", rows(row("\uFFFD", "\uFFFD\u0301"), nil), at(0, 2), false, 0},
		{3, "\u0301\u0301\xff", rows(row("\uFFFD"), nil), at(0, 1), false, 0},
		{3, "a\xcc\u0301", rows(row("a", "\uFFFD\u0301"), nil), at(0, 2), false, 0},
		{3, "a\xcc", rows(row("a"), nil), at(0, 1), false, 1},
		{3, "abcd\u0301", rows(row("a", "b", "c"), row("d\u0301")), at(1, 1), false, 0},
	}
	// Each of these stands between the cell and the mark, whether it does something or not.
	for _, between := range []string{
		"\x00", "\x07", "\t", "\x0b", "\x1f", "\x7f", "\u0080", "\u0085", "\u009f", "\x1b[m", "\x1b[1m", "\x1b[?25h", "\x1b[5A", "\x1b[;;H", "\x1b[2K", "\x1b[1J", "\x1b[K", "\x1b[J", "\x1b[1;2H",
		"\x1bc", "\x1b\x1bc", "\x1b[\x1bc", "\x1b[1\x7f", "\x1b[\x00", "\x1b\n", "\x1b\r", "\x1b\x7f", "\x1ba", "\x1b ",
	} {
		list = append(list, seen{3, "a" + between + "\u0301", rows(row("a"), nil), at(0, 1), false, 0})
		list = append(list, seen{3, "a\u0300" + between + "\u0301\u0301b", rows(row("a\u0300", "b"), nil), at(0, 2), false, 0})
	}
	// A sequence that the mark itself breaks off stands between them, too.
	for _, between := range []string{"\x1b[", "\x1b[1", "\x1b[1;2"} {
		list = append(list, seen{3, "a" + between + "\u0301", rows(row("a"), nil), at(0, 1), false, 0})
	}
	// The mark's first byte is gone with the ESC ahead of it; the next one is a bad byte.
	list = append(list, seen{3, "a\x1b\u0301", rows(row("a", "\uFFFD"), nil), at(0, 2), false, 0})
	for _, x := range list {
		x.look(t)
	}
}

// TestSequences has sequences that are broken off, and what is read anew behind them.
func TestSequences(t *testing.T) {
	for _, x := range []seen{
		{3, "\x1b", rows(nil, nil), at(0, 0), false, 1},
		{3, "\x1b\x1b", rows(nil, nil), at(0, 0), false, 1},
		{3, "\x1b\x1b\x1b[", rows(nil, nil), at(0, 0), false, 2},
		{3, "\x1b\x1b[2;2Hx", rows(nil, row(" ", "x")), at(1, 2), false, 0},
		{3, "\x1b[\x1b", rows(nil, nil), at(0, 0), false, 1},
		{3, "\x1b[2\x1b[;2Hx", rows(row(" ", "x"), nil), at(0, 2), false, 0},
		{3, "\x1b[2;\x1b\x1b[;2Hx", rows(row(" ", "x"), nil), at(0, 2), false, 0},
		{3, "\x1b[1;2\x1bHx", rows(row("x"), nil), at(0, 1), false, 0},
		{3, "\x1b[2\nx", rows(nil, row("x")), at(1, 1), false, 0},
		{3, "ab\x1b[2\x08x", rows(row("a", "x"), nil), at(0, 2), false, 0},
		{3, "a\x1b[2\x7fx", rows(row("a", "x"), nil), at(0, 2), false, 0},
		{3, "a\x1b[2\x00Hx", rows(row("a", "H", "x"), nil), at(0, 2), true, 0},
		{3, "a\x1b[2\xffH", rows(row("a", "\uFFFD", "H"), nil), at(0, 2), true, 0},
		{3, "a\x1b[2\u4e00H", rows(join(row("a"), wide("\u4e00")), row("H")), at(1, 1), false, 0},
		{3, "a\x1b[2\u0085H", rows(row("a", "H"), nil), at(0, 2), false, 0},
		{3, "a\x1b[2\xe4", rows(row("a"), nil), at(0, 1), false, 1},
		{3, "a\x1b[2\xe4\xb8", rows(row("a"), nil), at(0, 1), false, 2},
		{3, "a\x1b[2\xe4\xb8\x1b[", rows(row("a", "\uFFFD", "\uFFFD"), nil), at(0, 2), true, 2},
		{3, "a\x1b[2\x80", rows(row("a", "\uFFFD"), nil), at(0, 2), false, 0},
		{3, "\x1bHx", rows(row("x"), nil), at(0, 1), false, 0},
		{3, "ab\x1b\rx", rows(row("a", "b", "x"), nil), at(0, 2), true, 0},
		{3, "ab\x1b\x08x", rows(row("a", "b", "x"), nil), at(0, 2), true, 0},
		{3, "a\x1b\xe4\xb8", rows(row("a", "\uFFFD"), nil), at(0, 2), false, 0},
		{3, "a\x1b\xe4", rows(row("a"), nil), at(0, 1), false, 0},
		{3, "\x1bO\x1b]0;t", rows(row("0", ";", "t"), nil), at(0, 2), true, 0},
		{3, "\x1b[[x", rows(row("x"), nil), at(0, 1), false, 0},
		{3, "\x1b[~x", rows(row("x"), nil), at(0, 1), false, 0},
		{3, "\x1b[@x", rows(row("x"), nil), at(0, 1), false, 0},
		{3, "\x1b[1;2hx", rows(row("x"), nil), at(0, 1), false, 0},
		{3, "\x9b2;2Hx", rows(row("\uFFFD", "2", ";"), row("2", "H", "x")), at(1, 2), true, 0},
		{3, "\u009b2;2Hx", rows(row("2", ";", "2"), row("H", "x")), at(1, 2), false, 0},
	} {
		x.look(t)
	}
}

// TestGoTo has the numbers of H: where the cursor goes on a screen of 4 rows by 5 columns.
func TestGoTo(t *testing.T) {
	huge := strings.Repeat("7", 5000)
	for _, x := range []struct {
		inside   string
		row, col int
	}{
		{"", 0, 0}, {"0", 0, 0}, {"1", 0, 0}, {"2", 1, 0}, {"4", 3, 0}, {"5", 3, 0}, {"65536", 3, 0}, {"65537", 3, 0}, {"4294967298", 3, 0}, {"18446744073709551618", 3, 0}, {huge, 3, 0},
		{";", 0, 0}, {"0;0", 0, 0}, {"1;1", 0, 0}, {";3", 0, 2}, {"0;3", 0, 2}, {"2;", 1, 0}, {"2;0", 1, 0}, {"2;3", 1, 2}, {"4;5", 3, 4}, {"5;6", 3, 4}, {"3;" + huge, 2, 4}, {huge + ";4", 3, 3}, {huge + ";" + huge, 3, 4},
		{"00002;000000000000000000000000000003", 1, 2}, {strings.Repeat("0", 5000) + "3", 2, 0}, {"000", 0, 0}, {";65538", 0, 4}, {";4294967299", 0, 4}, {";18446744073709551619", 0, 4},
	} {
		for _, ahead := range []string{"", "\x1b[3;2H", "abcde", "\x1b[4;5Hx"} {
			s := screen.New(5, 4)
			s.Feed(ahead + "\x1b[" + x.inside + "H")
			if s.Cursor() != at(x.row, x.col) || s.Full() || s.Held() != 0 {
				t.Errorf("P22.2: H with %.40q behind %q: the cursor %v, want %d, %d", x.inside, ahead, s.Cursor(), x.row, x.col)
			}
		}
	}
	for _, inside := range []string{"1;2;", "1;2;3", ";;", "?", "?1", "1 ", " 1", "1;?", "1:2", "1,2", "-1", "+1", "2>", "!2;2", "2;2/"} {
		s := screen.New(5, 4)
		s.Feed("\x1b[3;2Hx\x1b[" + inside + "H")
		if s.Cursor() != at(2, 2) {
			t.Errorf("P22.2: H with %q: the cursor %v", inside, s.Cursor())
		}
	}
}

// TestClear has the numbers of J and K: from where on cells are cleared, if at all.
func TestClear(t *testing.T) {
	const ahead = "abcdefghi\x1b[2;2H"
	whole := rows(row("a", "b", "c"), row("d", "e", "f"), row("g", "h", "i"))
	below := rows(row("a", "b", "c"), row("d"), nil)
	right := rows(row("a", "b", "c"), row("d"), row("g", "h", "i"))
	for _, inside := range []string{"", "0", "00", strings.Repeat("0", 99)} {
		seen{3, ahead + "\x1b[" + inside + "J", below, at(1, 1), false, 0}.look(t)
		seen{3, ahead + "\x1b[" + inside + "K", right, at(1, 1), false, 0}.look(t)
	}
	for _, inside := range []string{"1", "2", "3", "01", "10", "65536", "4294967296", "18446744073709551616", strings.Repeat("8", 99), ";", "0;", ";0", "0;0", ";;", "?", "?0", "0?", "0 ", "-0", "<", "0:0"} {
		seen{3, ahead + "\x1b[" + inside + "J", whole, at(1, 1), false, 0}.look(t)
		seen{3, ahead + "\x1b[" + inside + "K", whole, at(1, 1), false, 0}.look(t)
	}
	for _, x := range []seen{
		{3, "abcdefghi\x1b[J", rows(row("a", "b", "c"), row("d", "e", "f"), row("g", "h")), at(2, 2), true, 0},
		{3, "abcdefghi\x1b[H\x1b[J", rows(nil, nil, nil), at(0, 0), false, 0},
		{3, "abcdefghi\x1b[H\x1b[K", rows(nil, row("d", "e", "f"), row("g", "h", "i")), at(0, 0), false, 0},
		{3, "abcdefghi\x1b[3H\x1b[K\x1b[2H\x1b[K", rows(row("a", "b", "c"), nil, nil), at(1, 0), false, 0},
		{3, "a\x1b[3H\x1b[J\x1b[K", rows(row("a"), nil, nil), at(2, 0), false, 0},
		{3, "a\x1b[2H\x1b[Jx", rows(row("a"), row("x"), nil), at(1, 1), false, 0},
		{3, "\u4e00\x1b[3H\u4e01\x1b[1;2H\x1b[J\x1b[3Hx", rows(nil, nil, row("x")), at(2, 1), false, 0},
	} {
		x.look(t)
	}
}

// TestHeld has what is held back behind each byte.
func TestHeld(t *testing.T) {
	for _, x := range []struct {
		bytes string
		held  []int
	}{
		{"a\x1b[12;3Hb", []int{0, 1, 2, 3, 4, 5, 6, 0, 0}},
		{"\x1b\x1b\x1b[\x1b[?\x1bc", []int{1, 1, 1, 2, 1, 2, 3, 1, 0}},
		{"\x1b[1\n\x1b[2\x7f", []int{1, 2, 3, 0, 1, 2, 3, 0}},
		{"\u4e00\U0001F600\u00e9", []int{1, 2, 0, 1, 2, 3, 0, 1, 0}},
		{"\xe4\xb8a\xe4\xe4\xb8\x1b[", []int{1, 2, 0, 1, 1, 2, 1, 2}},
		{"\xf0\x9f\x98\n\xf0\x9f\xcc\x81", []int{1, 2, 3, 0, 1, 2, 1, 0}},
		{"\xe0\x80\xed\xa0\xf4\x90\xc0\x80\xf5\xff\x80", []int{1, 0, 1, 0, 1, 0, 0, 0, 0, 0, 0}},
		{"\x1b[1\xe4\x1b[\xcc\x81", []int{1, 2, 3, 1, 1, 2, 1, 0}},
		{"\x1b\xe4\xb8\x1bO\x1bP", []int{1, 0, 0, 1, 0, 1, 0}},
		{"\x1b[ !?<;99m\x1b[m", []int{1, 2, 3, 4, 5, 6, 7, 8, 9, 0, 1, 2, 0}},
	} {
		if len(x.held) != len(x.bytes) {
			t.Fatalf("%q has %d bytes", x.bytes, len(x.bytes))
		}
		s, p := screen.New(3, 2), newTerminal(3, 2)
		for i, want := range x.held {
			s.Feed(x.bytes[i : i+1])
			p.feed(x.bytes[i : i+1])
			whole := screen.New(3, 2)
			whole.Feed(x.bytes[:i+1])
			if s.Held() != want || whole.Held() != want || len(p.held) != want {
				t.Errorf("P22.2: of %q %d bytes are held, %d at once, want %d", x.bytes[:i+1], s.Held(), whole.Held(), want)
			}
			wantAs(t, x.bytes[:i+1], whole, p)
		}
	}
	s := screen.New(3, 2)
	s.Feed("\x1b[" + strings.Repeat("1;?", 100000))
	if s.Held() != 300002 {
		t.Errorf("P22.2: of a long sequence %d bytes are held", s.Held())
	}
}

// TestRows has rows that are written and cleared again, and the cursor below them.
func TestRows(t *testing.T) {
	s := screen.New(3, 5)
	for _, x := range []struct {
		bytes string
		want  int
	}{
		{"", 1}, {"ab", 1}, {"\x1b[4H", 4}, {"x", 4}, {"\x1b[2H", 4}, {"\x1b[K", 4}, {"\x1b[4H\x1b[K", 4}, {"\x1b[2H", 2}, {"\x1b[H", 1}, {"\x1b[5;3H", 5}, {" ", 5}, {"\x1b[H", 1},
		{"\x1b[3;2H\u4e00", 3}, {"\x1b[H", 3}, {"\x1b[3;3H\x1b[K", 3}, {"\x1b[1;2H", 1}, {"\x1b[5Hy\n", 5}, {"\x1b[H", 4}, {"\x1b[2H\x1b[J", 2}, {"\x08\x1b[H", 1}, {"\x1b[K", 1}, {"\x1b[9H\n\n", 5},
		{"\x1b[H\x1b[J \u0301\x1b[2H \x1b[H", 1}, {"\x1b[3H \u0301\x1b[H", 3},
	} {
		s.Feed(x.bytes)
		if s.Rows() != x.want {
			t.Errorf("P22.3: behind %q Rows is %d, want %d: %v", x.bytes, s.Rows(), x.want, s.Frame(5))
		}
	}
}

// TestFrame has numbers of rows below 1, within the height and above it, and the cursor beyond them.
func TestFrame(t *testing.T) {
	s := screen.New(3, 4)
	s.Feed("ab\x1b[2H  \x1b[3;2H\u4e00\x1b[4;2H")
	all := rows(row("a", "b"), nil, join(row(" "), wide("\u4e00")), nil)
	for _, x := range []struct{ rows, want int }{
		{math.MinInt, 1}, {-1, 1}, {0, 1}, {1, 1}, {2, 2}, {3, 3}, {4, 4}, {5, 4}, {65535, 4}, {65536, 4}, {math.MaxInt, 4},
	} {
		want := api.Frame{Width: 3, Rows: all[:x.want], Cursor: at(3, 1)}
		if got := s.Frame(x.rows); !alike(got, want) {
			t.Errorf("P22.4: Frame(%d): %v, want %v", x.rows, got, want)
		}
	}
}
