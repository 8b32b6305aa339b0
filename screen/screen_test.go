package screen_test

import (
	"strconv"
	"strings"
	"testing"

	"bodkin/screen"
)

// pieces has what a terminal may be told, whole and in parts, and what means nothing.
var pieces = []string{
	"a", "\u4e00", "\u0301", " ", "\n", "\x08", "\r", "\x1b[K", "\x1b[J", "\x1b[H", "\x1b[2;2H", "\x1b[;3H", "\x1b[1;2H", "b\u0301", "\x1b", "\x1b[", "\x1b[1", "\x1b[;",
	"[", "H", "J", "K", "m", "0", "2", ";", "?", "\x1b[m", "\x1b[A", "\x1b[2K", "\x1b[;J", "\x00", "\t", "\x7f", "\u0085", "\xff", "\x85", "\xe4\xb8", "\xe4", "\x80", "\xcc", "\x81", "\xf0\x9f\x98",
	"\u3000", "\U0001F600\u200d", "\u00e9", "\uFFFD", "\u00a0", "\U0010FFFF", "\x1bc", "\x1b[9;9H", "\x1b[00J", "\x1b[99999999999999999999H",
}

// sizes has widths and heights of small screens.
var sizes = [][2]int{{1, 1}, {1, 2}, {2, 1}, {2, 2}, {3, 2}, {2, 3}, {4, 1}, {5, 3}}

// numbers answers numbers that look mixed, the same ones at each run.
func numbers(seed uint64) func(below int) int {
	return func(below int) int {
		seed = seed*6364136223846793005 + 1442695040888963407
		return int(seed>>33) % below
	}
}

// mixed answers n of the pieces as one text, most of them from among the first ones.
func mixed(next func(int) int, n int) string {
	var s strings.Builder
	for range n {
		if next(4) > 0 {
			s.WriteString(pieces[next(14)])
		} else {
			s.WriteString(pieces[next(len(pieces))])
		}
	}
	return s.String()
}

// name answers a text for bytes on a screen.
func name(wide, high int, bytes string) string {
	return strconv.Quote(bytes) + " on " + strconv.Itoa(wide) + " by " + strconv.Itoa(high)
}

// everyText holds a screen against the plain terminal behind each text of at most most of those pieces.
func everyText(t *testing.T, wide, high, most int, from []string) {
	var grow func(text string, s *screen.Screen, x *terminal, most int)
	grow = func(text string, s *screen.Screen, x *terminal, most int) {
		wantAs(t, name(wide, high, text), s, x)
		if most == 0 {
			return
		}
		for _, p := range from {
			c, y := s.Clone(), x.clone()
			c.Feed(p)
			y.feed(p)
			grow(text+p, c, y, most-1)
		}
	}
	grow("", screen.New(wide, high), newTerminal(wide, high), most)
}

// TestShortTexts has all texts of few pieces.
func TestShortTexts(t *testing.T) {
	for _, size := range sizes {
		everyText(t, size[0], size[1], 2, pieces)
		everyText(t, size[0], size[1], 4, pieces[:14])
	}
	everyText(t, 2, 2, 3, pieces)
	everyText(t, 3, 2, 5, []string{"a", "\u4e00", "\n", "\x08", "\x1b[K", "\u0301", "\x1b[1;2H", " "})
}

// TestLongTexts has mixed texts on screens of many sizes, in pieces of many lengths.
func TestLongTexts(t *testing.T) {
	next := numbers(22)
	for range 3000 {
		wide, high := 1+next(12), 1+next(6)
		text := mixed(next, 1+next(120))
		s, x := screen.New(wide, high), newTerminal(wide, high)
		for rest := text; rest != ""; {
			n := min(1+next(20), len(rest))
			s.Feed(rest[:n])
			x.feed(rest[:n])
			rest = rest[n:]
			wantAs(t, name(wide, high, text[:len(text)-len(rest)]), s, x)
		}
	}
}

// TestAnyBytes has bytes of every kind, few of which make a whole character or sequence.
func TestAnyBytes(t *testing.T) {
	next := numbers(5)
	for range 20000 {
		wide, high := 1+next(5), 1+next(3)
		b := make([]byte, 1+next(24))
		for i := range b {
			b[i] = byte(next(256))
			if next(3) == 0 {
				b[i] = "\x1b[1;HJK\xe4\xb8\x80\xcc\x81"[next(12)]
			}
		}
		s, x := screen.New(wide, high), newTerminal(wide, high)
		s.Feed(string(b))
		x.feed(string(b))
		wantAs(t, name(wide, high, string(b)), s, x)
	}
}

// TestEveryByte has each byte by itself, ahead of and behind written cells, within sequences and units.
func TestEveryByte(t *testing.T) {
	aheads := []string{
		"", "a", "ab", "abc", "a\u4e00", "\u4e00", "e\u0301", "ab\u4e00d\x1b[2;2H", "abcdef", "abcdef\x1b[1;2H", "a\n\n", "\u4e00\u4e01\x1b[1;2H",
		"abc\x1b", "abc\x1b[", "abc\x1b[1", "abc\x1b[1;", "abc\x1b[;2", "abc\x1b[1;2;", "abc\x1b[?", "abc\x1b[ ", "abc\x1b[0", "abc\x1b[\x1b",
		"abc\xc2", "abc\xcc", "abc\xe4", "abc\xe4\xb8", "abc\xf0", "abc\xf0\x9f", "abc\xf0\x9f\x98", "abc\xe0", "abc\xed", "abc\xf4", "a\xef\xbf",
	}
	for _, ahead := range aheads {
		for b := range 256 {
			for _, behind := range []string{"", "x", "\u4e00", "\u0301", "\n", "Hx", "\x80y"} {
				for _, wide := range []int{1, 2, 3, 4} {
					text := ahead + string([]byte{byte(b)}) + behind
					s, x := screen.New(wide, 2), newTerminal(wide, 2)
					s.Feed(text)
					x.feed(text)
					wantAs(t, name(wide, 2, text), s, x)
				}
			}
		}
	}
}

// TestEverySequence has each end with many insides, on a screen with something everywhere and FULL set or not.
func TestEverySequence(t *testing.T) {
	huge := strings.Repeat("9", 40)
	insides := []string{
		"", "0", "1", "2", "3", "4", "9", "00", "000002", "10", "65535", "65536", "65537", "131072", "4294967296", "4294967297", "18446744073709551616", "18446744073709551617", "18446744073709551618", huge, "0" + huge,
		";", "0;", ";0", "1;", ";1", "2;3", ";2", "2;", "02;003", "9;9", "2;" + huge, huge + ";2", huge + ";" + huge, "0;0", "1;1", "00;00", "2;18446744073709551618", "18446744073709551618;2",
		";;", "1;2;", "1;2;3", ";;2", "2;;", "2;2;0", "?", "?1", "1?", "1;?", "1;?2", ":", "1:2", "2:", " ", " 2", "2 ", "2; 2", "-1", "+2", "2;+2", "2,2", "!", "/", "<2", "=", ">", "2;2>", "'", "\"", "0 ", " 0", "0?", "?0",
	}
	for _, ahead := range []string{"abc\u4e00e\u4e01hi\x1b[2;3H", "abc\u4e00e\u4e01hi\x1b[2;2H", "abc\u4e00e\u4e01hi", "abc\u4e00e\x1b[2;3Hx"} {
		for _, inside := range insides {
			for end := 0x40; end < 0x7f; end++ {
				text := ahead + "\x1b[" + inside + string(rune(end))
				s, x := screen.New(3, 3), newTerminal(3, 3)
				s.Feed(text)
				x.feed(text)
				wantAs(t, name(3, 3, text), s, x)
				s.Feed("z")
				x.feed("z")
				wantAs(t, name(3, 3, text+"z"), s, x)
			}
		}
	}
}

// TestPieces has the same bytes at once and cut in one or two places: all that is seen is the same.
func TestPieces(t *testing.T) {
	next := numbers(7)
	for range 400 {
		wide, high := 1+next(4), 1+next(3)
		text := mixed(next, 1+next(8))
		x := newTerminal(wide, high)
		x.feed(text)
		for i := range len(text) + 1 {
			for j := i; j <= len(text); j++ {
				s := screen.New(wide, high)
				s.Feed(text[:i])
				s.Feed(text[i:j])
				s.Feed("")
				s.Feed(text[j:])
				wantAs(t, name(wide, high, text)+", cut at "+strconv.Itoa(i)+" and "+strconv.Itoa(j), s, x)
			}
		}
	}
}

// TestHomeAndClear has P22.7 behind anything, with something under way too.
func TestHomeAndClear(t *testing.T) {
	look := func(wide, high int, text string) {
		t.Helper()
		s := screen.New(wide, high)
		s.Feed(text)
		s.Feed("\x1b[H\x1b[J")
		f := s.Frame(high)
		for _, cells := range f.Rows {
			if len(cells) > 0 {
				t.Fatalf("P22.7: behind %s: %v", name(wide, high, text), f)
			}
		}
		if s.Cursor() != at(0, 0) || s.Full() || s.Held() != 0 || s.Rows() != 1 || len(f.Rows) != high {
			t.Fatalf("P22.7: behind %s: the cursor %v, FULL %v, %d held, %d rows", name(wide, high, text), s.Cursor(), s.Full(), s.Held(), s.Rows())
		}
		s.Feed("\u0301")
		if s.Rows() != 1 || len(s.Frame(1).Rows[0]) != 0 {
			t.Fatalf("P22.7: behind %s a mark finds a cell: %v", name(wide, high, text), s.Frame(1))
		}
	}
	next := numbers(9)
	for _, size := range sizes {
		for _, p := range pieces {
			for _, q := range pieces {
				look(size[0], size[1], p+q)
				look(size[0], size[1], strings.Repeat("x\u4e00", 9)+p+q)
			}
		}
		for range 300 {
			look(size[0], size[1], mixed(next, next(40)))
		}
	}
}
