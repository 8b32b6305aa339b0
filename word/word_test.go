package word_test

import (
	"math"
	"slices"
	"strings"
	"testing"
	"unicode/utf8"
	"unsafe"

	"bodkin/api"
	"bodkin/cluster"
	"bodkin/unit"
	"bodkin/width"
	"bodkin/word"
)

// pieces are word characters and others of each length and class, letters of both cases and of none, and bytes that are no character or a part of one.
var pieces = []string{
	"a", "Z", "0", "_", "\u00e9", "\u0178", "\u00df", "\u0431", "\u20ac", "\U00010000",
	"\u0301", "\u200d", "\U0001f3fb",
	"\u4e00", "\U0001f600", "\u3001",
	" ", "-", "\u00ab", "\u2014",
	"\r", "\n", "\t", "\u0085",
	"\xff", "\xc3", "\xe4\xb8",
}

// wordPieces are the fewest that have each thing by which words are told.
var wordPieces = []string{"a", "B", "\u00c9", "\u0301", "\u4e00", "-", "\n", "\u2014", "\xff", "\xc3"}

// someBytes make encodings of several lengths and classes, whole, cut off and joined wrongly.
var someBytes = []string{"a", "Z", " ", "\n", "\x80", "\x81", "\x89", "\xa9", "\xb8", "\xc3", "\xcc", "\xe4", "\xff"}

// ordinaryTexts are texts of several words and lines, and long ones.
func ordinaryTexts() []string {
	return []string{
		"plain words, nothing ELSE", "  at neither end  ", "x", "one", "no_blank_1_at_ALL", "-- ++ ??", "3.14 is 2 Words",
		"one\ntwo\r\nThree\rFOUR\n\r\n", "stra\u00dfe caf\u00e9 CAF\u00c9 cafe\u0301 \u20ac5 \U0001f600!",
		"\u4e00\u4e8c\u3001\u4e09 \u304b\u3099 \uac00", "\U0001f44d\U0001f3fd \U0001f469\u200d\U0001f4bb",
		"\u0394\u03b9\u03bf\u03c2 \u041f\u0440\u0438\u0432\u0435\u0442, \u0401\u0436 \u0450\u0461",
		"\u0301mark first", "-\u0301behind a hyphen", "\t\u0301behind a control", "\n\u0301behind a newline", "\xff\u0301behind a bad byte",
		"half \xe4\xb8 and \xc3\xc3\xa9 and \xff\u0301 and \xed\xa0\x80", "A" + strings.Repeat("\u0301", 60) + "B",
		strings.Repeat("e\u0301\u4e00 \xffT\t\r\n\u0301", 10),
	}
}

// eachText hands over every text of at most most parts.
func eachText(parts []string, most int, do func(string)) {
	var grow func(s string, n int)
	grow = func(s string, n int) {
		do(s)
		if n < most {
			for _, p := range parts {
				grow(s+p, n+1)
			}
		}
	}
	grow("", 0)
}

// eachSmallText hands over the ordinary texts, every text of a few pieces and every text of at most four of some bytes.
func eachSmallText(do func(string)) {
	for _, s := range ordinaryTexts() {
		do(s)
	}
	eachText(pieces, 3, do)
	eachText(wordPieces, 4, do)
	eachText(someBytes, 4, do)
}

// someOffsets are all within and around s, and the ends of int.
func someOffsets(s string) []int {
	list := []int{math.MinInt, math.MinInt + 1, math.MinInt32, math.MaxInt32, math.MaxInt - 1, math.MaxInt}
	for at := -3; at <= len(s)+3; at++ {
		list = append(list, at)
	}
	return list
}

// wrongRunes are no characters, or -1.
var wrongRunes = []rune{-1, -2, -'a', -0x101, -0x4E00, -0x110000, 0xD800, 0xDBFF, 0xDC00, 0xDFFF, 0x110000, 0x110061, 0x200041, math.MinInt32, math.MinInt32 + 1, math.MinInt32 + 32, math.MinInt32 + 80, math.MinInt32 + 0x79, math.MaxInt32 - 0x79, math.MaxInt32 - 80, math.MaxInt32 - 32, math.MaxInt32 - 1, math.MaxInt32}

func checkRune(t *testing.T, r reference, c rune) {
	if got, want := word.IsWord(c), r.isWord(c); got != want {
		t.Errorf("P5.1: IsWord(%#x): %v", c, got)
	}
	if got, want := word.UpperOf(c), r.upperOf(c); got != want {
		t.Errorf("P5.3: UpperOf(%#x): %#x, want %#x", c, got, want)
	}
	if got, want := word.LowerOf(c), r.lowerOf(c); got != want {
		t.Errorf("P5.3: LowerOf(%#x): %#x, want %#x", c, got, want)
	}
}

func TestEachCharacter(t *testing.T) {
	r := newReference()
	for c := rune(-1); c <= 0x110000 && !t.Failed(); c++ {
		checkRune(t, r, c)
	}
}

func TestEndsOfRanges(t *testing.T) {
	r := newReference()
	for _, x := range ranges(leftOutTable + ", 30 39, 41 5A, 5F 5F, 61 7A, A0 A9, D800 DFFF, 10FFFE 10FFFF") {
		for _, c := range []rune{x.First - 1, x.First, x.First + 1, x.Last - 1, x.Last, x.Last + 1} {
			checkRune(t, r, c)
		}
	}
}

// TestIsWordWrittenDown has the first and the last of each range, with the characters right beside them.
func TestIsWordWrittenDown(t *testing.T) {
	for _, c := range []rune{
		'0', '9', 'A', 'Z', '_', 'a', 'z', 0xAA, 0xB5, 0xBA, 0xC0, 0xD6, 0xD8, 0xF6, 0xF8, 0x1FFF, 0x200C, 0x200D, 0x2070, 0x2DFF, 0x2E80,
		0x2FFF, 0x3005, 0x3007, 0x3021, 0x302F, 0x3031, 0xFE2F, 0xFE70, 0xFF00, 0xFF10, 0xFF19, 0xFF21, 0x300, 0x4E00, 0xD7FF, 0xE000, 0xFFFD, 0x1F600, 0x10FFFF,
	} {
		if !word.IsWord(c) {
			t.Errorf("P5.1: %#x is a word character", c)
		}
	}
	for _, c := range []rune{
		0, '\n', '\r', ' ', '/', ':', '@', '[', '^', '`', '{', 0x7F, 0x80, 0x85, 0x9F, 0xA0, 0xA9, 0xAB, 0xB4, 0xB6, 0xB9, 0xBB, 0xBF, 0xD7, 0xF7,
		0x2000, 0x200B, 0x200E, 0x206F, 0x2E00, 0x2E7F, 0x3000, 0x3004, 0x3008, 0x3020, 0x3030, 0xFE30, 0xFE6F, 0xFF01, 0xFF0F, 0xFF1A, 0xFF20,
	} {
		if word.IsWord(c) {
			t.Errorf("P5.1: %#x is no word character", c)
		}
	}
}

func TestWrongRunes(t *testing.T) {
	r := newReference()
	for _, c := range wrongRunes {
		checkRune(t, r, c)
		if word.IsWord(c) {
			t.Errorf("P5.1: %#x is no word character", c)
		}
		if word.UpperOf(c) != c || word.LowerOf(c) != c {
			t.Errorf("P5.3: the forms of %#x: %#x and %#x", c, word.UpperOf(c), word.LowerOf(c))
		}
	}
}

// TestPairsWrittenDown has the ends of each row of pairs.
func TestPairsWrittenDown(t *testing.T) {
	for _, x := range [][2]rune{
		{'a', 'A'}, {'z', 'Z'}, {0xE0, 0xC0}, {0xF6, 0xD6}, {0xF8, 0xD8}, {0xFE, 0xDE}, {0xFF, 0x178},
		{0x101, 0x100}, {0x12F, 0x12E}, {0x133, 0x132}, {0x137, 0x136}, {0x14B, 0x14A}, {0x177, 0x176},
		{0x3B1, 0x391}, {0x3C1, 0x3A1}, {0x3C3, 0x3A3}, {0x3C9, 0x3A9},
		{0x430, 0x410}, {0x44F, 0x42F}, {0x450, 0x400}, {0x45F, 0x40F}, {0x461, 0x460}, {0x481, 0x480},
	} {
		small, large := x[0], x[1]
		if word.UpperOf(small) != large || word.LowerOf(large) != small {
			t.Errorf("P5.3: the pair of %#x and %#x: %#x, %#x", small, large, word.UpperOf(small), word.LowerOf(large))
		}
		if word.UpperOf(large) != large || word.LowerOf(small) != small {
			t.Errorf("P5.3: %#x isn't its own lower form, or %#x its own upper form", small, large)
		}
	}
}

// TestNoPair has the characters right beside the ends of the rows, and those that the chapter names.
func TestNoPair(t *testing.T) {
	list := []rune{
		'@', '[', '`', '{', '0', '_', ' ', 0xD7, 0xDF, 0xF7, 0xBF, 0x130, 0x131, 0x138, 0x139, 0x13A, 0x140, 0x141, 0x142, 0x147, 0x148, 0x149, 0x179, 0x17A, 0x17F,
		0x390, 0x3A2, 0x3AA, 0x3AC, 0x3B0, 0x3C2, 0x3CA, 0x482, 0x483, 0x48A, 0x48B, 0x1E01, 0x2160, 0xFF21, 0xFF41, 0x10400, 0x10428,
	}
	for _, c := range list {
		if word.UpperOf(c) != c || word.LowerOf(c) != c {
			t.Errorf("P5.3: %#x is in no pair: %#x, %#x", c, word.UpperOf(c), word.LowerOf(c))
		}
	}
}

// TestFormsKeepLength holds the forms of each rune to the rune, without the reference.
func TestFormsKeepLength(t *testing.T) {
	for c := rune(-1); c <= 0x110000 && !t.Failed(); c++ {
		upper, lower := word.UpperOf(c), word.LowerOf(c)
		if n := utf8.RuneLen(c); utf8.RuneLen(upper) != n || utf8.RuneLen(lower) != n {
			t.Errorf("P5.3: the forms of %#x, %#x and %#x, have other lengths", c, upper, lower)
		}
		if word.LowerOf(upper) != lower || word.UpperOf(lower) != upper {
			t.Errorf("P5.3: from %#x there and back: %#x and %#x", c, word.LowerOf(upper), word.UpperOf(lower))
		}
		if upper != c && lower != c {
			t.Errorf("P5.3: %#x is in two pairs: with %#x and with %#x", c, upper, lower)
		}
	}
}

func TestSpans(t *testing.T) {
	r := newReference()
	eachSmallText(func(s string) {
		if got, want := word.Spans(s), r.spans(s); !slices.Equal(got, want) {
			t.Fatalf("P5.1: Spans(%q): %v, want %v", s, got, want)
		}
	})
}

// TestSpansWrittenDown writes down what the reference reckons elsewhere.
func TestSpansWrittenDown(t *testing.T) {
	for _, x := range []struct {
		text string
		want []string
	}{
		{"", nil}, {" ", nil}, {"-- \u2014 \xff\n", nil}, {"\u0085\u00a0\u2003", nil},
		{"word", []string{"word"}}, {" word ", []string{"word"}}, {"one, two; three", []string{"one", "two", "three"}},
		{"_a1 2_b", []string{"_a1", "2_b"}}, {"don't", []string{"don", "t"}}, {"a\nb\r\nc", []string{"a", "b", "c"}},
		{"caf\u00e9s \u0431\u044b\u043b", []string{"caf\u00e9s", "\u0431\u044b\u043b"}}, {"\u00d7\u00d6\u00f7", []string{"\u00d6"}},
		{"e\u0301\u0301a b\u0301", []string{"e\u0301\u0301a", "b\u0301"}}, {"\u4e00\u4e8c\u3001\u4e09\u3000a", []string{"\u4e00\u4e8c", "\u4e09", "a"}},
		{"\U0001f600a \U00010000", []string{"\U0001f600a", "\U00010000"}}, {"a\u20acb", []string{"a\u20acb"}},
		{"a-\u0301b", []string{"a", "b"}}, {"a \u0301\u0301b", []string{"a", "b"}}, {"a\n\u0301b", []string{"a", "\u0301b"}}, {"a\t\u0301-", []string{"a", "\u0301"}},
		{"\u0085\u0301", []string{"\u0301"}}, {"\xff\u0301a", []string{"a"}}, {"a\xe4\xb8b", []string{"a", "b"}}, {"\u200da\u200b\u200db", []string{"\u200da", "b"}},
	} {
		var got []string
		for _, w := range word.Spans(x.text) {
			got = append(got, x.text[w.From:w.To])
		}
		if !slices.Equal(got, x.want) {
			t.Errorf("P5.1: the words of %q: %q, want %q", x.text, got, x.want)
		}
	}
}

// TestSpansApart asks what follows from the chapter's words: that words stand at boundaries and never touch.
func TestSpansApart(t *testing.T) {
	eachSmallText(func(s string) {
		end := -1
		for _, w := range word.Spans(s) {
			if w.From <= end || w.To <= w.From || !cluster.Boundary(s, w.From) || !cluster.Boundary(s, w.To) {
				t.Fatalf("P5.1: Spans(%q) has %v, behind %d", s, w, end)
			}
			end = w.To
		}
	})
}

func TestPlaces(t *testing.T) {
	r := newReference()
	eachSmallText(func(s string) {
		words := r.spans(s)
		for _, at := range someOffsets(s) {
			if got, want := word.Ahead(s, at), ahead(s, words, at); got != want {
				t.Fatalf("P5.2: Ahead(%q, %d): %d, want %d", s, at, got, want)
			}
			if got, want := word.Behind(s, at), behind(s, words, at); got != want {
				t.Fatalf("P5.2: Behind(%q, %d): %d, want %d", s, at, got, want)
			}
		}
	})
}

// TestPlacesWrittenDown writes down what the reference reckons elsewhere.
func TestPlacesWrittenDown(t *testing.T) {
	for _, x := range []struct {
		text              string
		at, ahead, behind int
	}{
		{"", 0, 0, 0}, {"", math.MinInt, 0, 0}, {"", math.MaxInt, 0, 0},
		{"ab cd", math.MinInt, 2, 0}, {"ab cd", -1, 2, 0}, {"ab cd", 6, 5, 3}, {"ab cd", math.MaxInt, 5, 3},
		{"-- ", 0, 3, 0}, {"-- ", 3, 3, 0}, {"-- ab", 1, 5, 0}, {"-- ab", 3, 5, 0}, {"-- ab", 4, 5, 3},
		{"ab --", 2, 5, 0}, {"ab --", 5, 5, 0}, {"ab, cd", 2, 6, 0}, {"ab, cd", 3, 6, 0},
		// Within a character, and between a character and its mark.
		{"\u4e00 a", 1, 3, 0}, {"\u4e00 a", 2, 3, 0}, {"a\u0301 b", 1, 3, 0}, {"a\u0301 b", 2, 3, 0}, {"a\u0301 b", 3, 5, 0},
		{"b \u4e00", 3, 5, 2}, {"b \u4e00", 4, 5, 2}, {"b a\u0301", 3, 5, 2}, {"b -\u0301", 3, 5, 0},
		{"-\u0301a", 1, 4, 0}, {"-\u0301a", 2, 4, 0}, {"a\xe4\xb8b", 1, 4, 0}, {"a\xe4\xb8b", 2, 4, 0}, {"a\xe4\xb8b", 3, 4, 0},
	} {
		if got := word.Ahead(x.text, x.at); got != x.ahead {
			t.Errorf("P5.2: Ahead(%q, %d): %d, want %d", x.text, x.at, got, x.ahead)
		}
		if got := word.Behind(x.text, x.at); got != x.behind {
			t.Errorf("P5.2: Behind(%q, %d): %d, want %d", x.text, x.at, got, x.behind)
		}
	}
}

// sameUnits tells whether the units of two texts have the same places, and are characters or bad bytes at the same ones.
func sameUnits(one, two string) bool {
	return slices.EqualFunc(unit.Units(one), unit.Units(two), func(a, b api.Unit) bool {
		return a.Size == b.Size && (a.Char == -1) == (b.Char == -1)
	})
}

func TestCase(t *testing.T) {
	r := newReference()
	eachSmallText(func(s string) {
		upper, lower, capital := word.Upper(s), word.Lower(s), word.Capital(s)
		if want := r.upperText(s); upper != want {
			t.Fatalf("P5.4: Upper(%q): %q, want %q", s, upper, want)
		}
		if want := r.lowerText(s); lower != want {
			t.Fatalf("P5.4: Lower(%q): %q, want %q", s, lower, want)
		}
		if want := r.capitalText(s, r.spans(s)); capital != want {
			t.Fatalf("P5.5: Capital(%q): %q, want %q", s, capital, want)
		}
		if !sameUnits(s, upper) || !sameUnits(s, lower) {
			t.Fatalf("P5.4: the units of %q have other places in %q or %q", s, upper, lower)
		}
		if !sameUnits(s, capital) {
			t.Fatalf("P5.5: the units of %q have other places in %q", s, capital)
		}
	})
}

// TestCaseOfEachCharacter has each character between two letters, where it is written as itself or as its form.
func TestCaseOfEachCharacter(t *testing.T) {
	r := newReference()
	for c := rune(0); c <= 0x10FFFF && !t.Failed(); c++ {
		own := unit.Encode(c)
		if own == "" {
			continue
		}
		if got, want := word.Upper("a"+own+"B"), "A"+unit.Encode(r.upperOf(c))+"B"; got != want {
			t.Errorf("P5.4: Upper of a, %#x, B: %q, want %q", c, got, want)
		}
		if got, want := word.Lower("a"+own+"B"), "a"+unit.Encode(r.lowerOf(c))+"b"; got != want {
			t.Errorf("P5.4: Lower of a, %#x, B: %q, want %q", c, got, want)
		}
		// Behind a character that is in no word the letter begins a word of its own, but a mark belongs to the hyphen.
		want := "-" + unit.Encode(r.upperOf(c)) + "b"
		if !r.isWord(c) || width.Class(c) == api.ClassMark {
			want = "-" + unit.Encode(r.lowerOf(c)) + "B"
		}
		if got := word.Capital("-" + own + "B"); got != want {
			t.Errorf("P5.5: Capital of a hyphen, %#x, B: %q, want %q", c, got, want)
		}
	}
}

// TestCaseWrittenDown writes down what the reference reckons elsewhere.
func TestCaseWrittenDown(t *testing.T) {
	for _, x := range []struct{ text, upper, lower, capital string }{
		{"", "", "", ""}, {" \xff-", " \xff-", " \xff-", " \xff-"}, {"abc XYZ_q", "ABC XYZ_Q", "abc xyz_q", "Abc Xyz_q"},
		{"\u00ff\u0178", "\u0178\u0178", "\u00ff\u00ff", "\u0178\u00ff"}, {"\u00c9t\u00e9", "\u00c9T\u00c9", "\u00e9t\u00e9", "\u00c9t\u00e9"},
		{"\u0131\u0130", "\u0131\u0130", "\u0131\u0130", "\u0131\u0130"}, {"\u03a3\u03c3\u03c2", "\u03a3\u03a3\u03c2", "\u03c3\u03c3\u03c2", "\u03a3\u03c3\u03c2"},
		{"\u0451\u0416 \u0436\u0401", "\u0401\u0416 \u0416\u0401", "\u0451\u0436 \u0436\u0451", "\u0401\u0436 \u0416\u0451"},
		{"e\u0301E a\u0301", "E\u0301E A\u0301", "e\u0301e a\u0301", "E\u0301e A\u0301"}, {"\u0301aB", "\u0301AB", "\u0301ab", "\u0301ab"},
		{"-\u0301aB", "-\u0301AB", "-\u0301ab", "-\u0301Ab"}, {"\n\u0301aB", "\n\u0301AB", "\n\u0301ab", "\n\u0301ab"},
		{"\u4e00aB", "\u4e00AB", "\u4e00ab", "\u4e00ab"}, {"1aB", "1AB", "1ab", "1ab"}, {"_aB", "_AB", "_ab", "_ab"},
		{"a\xffB\xc3c\xe4\xb8D", "A\xffB\xc3C\xe4\xb8D", "a\xffb\xc3c\xe4\xb8d", "A\xffB\xc3C\xe4\xb8D"}, {"ab\xc3", "AB\xc3", "ab\xc3", "Ab\xc3"},
		{"\ufffda\U0001f600B", "\ufffdA\U0001f600B", "\ufffda\U0001f600b", "\ufffda\U0001f600b"}, {"\u00f7a\u00d7B", "\u00f7A\u00d7B", "\u00f7a\u00d7b", "\u00f7A\u00d7B"},
	} {
		if got := word.Upper(x.text); got != x.upper {
			t.Errorf("P5.4: Upper(%q): %q, want %q", x.text, got, x.upper)
		}
		if got := word.Lower(x.text); got != x.lower {
			t.Errorf("P5.4: Lower(%q): %q, want %q", x.text, got, x.lower)
		}
		if got := word.Capital(x.text); got != x.capital {
			t.Errorf("P5.5: Capital(%q): %q, want %q", x.text, got, x.capital)
		}
	}
}

// TestLongText has more words and longer ones than a text of pieces.
func TestLongText(t *testing.T) {
	r := newReference()
	s := strings.Repeat("caf\u00c9 e\u0301\u4e00, \xffT\t\r\n\u0301", 1<<10) + strings.Repeat("x", 1<<15) + strings.Repeat(" ", 1<<15)
	words := r.spans(s)
	if got := word.Spans(s); !slices.Equal(got, words) {
		t.Errorf("P5.1: %d words, want %d", len(got), len(words))
	}
	for _, at := range []int{0, 1, len(s) / 3, len(s) / 2, len(s) - 1<<15, len(s) - 1, len(s)} {
		if got, want := word.Ahead(s, at), ahead(s, words, at); got != want {
			t.Errorf("P5.2: Ahead of %d: %d, want %d", at, got, want)
		}
		if got, want := word.Behind(s, at), behind(s, words, at); got != want {
			t.Errorf("P5.2: Behind of %d: %d, want %d", at, got, want)
		}
	}
	if word.Upper(s) != r.upperText(s) || word.Lower(s) != r.lowerText(s) {
		t.Error("P5.4: Upper or Lower of a long text")
	}
}

func TestSpansAreNewMemory(t *testing.T) {
	s := "one two three"
	one, two := word.Spans(s), word.Spans(s)
	want := slices.Clone(two)
	one = one[:cap(one)]
	for n := range one {
		one[n] = api.Span{From: 9, To: 9}
	}
	if !slices.Equal(two, want) || !slices.Equal(word.Spans(s), want) {
		t.Error("R3: a change of one answer of Spans is seen in another")
	}
}

// TestTextsAreNewMemory has texts that stay as they are, of which an answer might be the argument itself.
func TestTextsAreNewMemory(t *testing.T) {
	within := func(part, whole string) bool {
		from, at := uintptr(unsafe.Pointer(unsafe.StringData(whole))), uintptr(unsafe.Pointer(unsafe.StringData(part)))
		return from <= at && at < from+uintptr(len(whole))
	}
	for _, s := range []string{strings.Repeat("12 ", 9), strings.Repeat("-", 9), strings.Repeat("\xff", 9), strings.Repeat("\u4e00", 9)} {
		for _, got := range []string{word.Upper(s), word.Lower(s), word.Capital(s)} {
			if within(got, s) {
				t.Errorf("R3: a text made of %q is a piece of it", s)
			}
		}
	}
}
