package metric_test

import (
	"math"
	"slices"
	"strings"
	"testing"
	"unsafe"

	"bodkin/api"
	"bodkin/metric"
)

// pieces are units of each class and length, the controls that the chapter tells apart, and bytes that are no character or a part of one.
var pieces = []string{
	"a", "\u00e9", "\u20ac", "\U00010000", "\ufffd",
	"\u0301", "\u200d", "\U0001f3fb", "\U000e0100",
	"\u4e00", "\U0001f600",
	"\r", "\n", "\t", "\x7f", "\u0085",
	"\xff", "\x81", "\xcc", "\xe4\xb8", "\xf3\xa0\x84",
}

// seamPieces are the fewest that have each thing a seam can change.
var seamPieces = []string{"a", "\u0301", "\U000e0100", "\u4e00", "\r", "\n", "\u0085", "\xff", "\xcc", "\x85"}

// someBytes make encodings of all lengths and classes, whole, cut off and joined wrongly.
var someBytes = []string{"a", "\r", "\n", "\x80", "\x81", "\x84", "\x85", "\xa0", "\xb8", "\xc2", "\xcc", "\xe4", "\xf3", "\xff"}

// fillings stand between a seam and a text's end, so that more than a summary's ends lies there: their units' bytes are 1 to 4, of each class.
var fillings = []string{"a", "\u00e9", "\u0301", "\u4e00", "\U0001f600", "\U000e0100", "\r", "\n", "\r\n", "\t", "\u0085", "\xff", "\x80", "\xf3", "e\u0301\u4e00\xff\r\n"}

// ordinaryTexts are texts of several lines, and long ones.
func ordinaryTexts() []string {
	return []string{
		"", "plain words, nothing else", "one\ntwo\r\nthree\rfour\n\r\n",
		"caf\u00e9 cafe\u0301 \u20ac5 \U0001f600!", "\u4e00\u4e8c\u4e09 \u304b\u3099 \uac00",
		"\U0001f44d\U0001f3fd \U0001f469\u200d\U0001f4bb", "a\tb\x1b[0m\u0085c\u009bd",
		"half \xe4\xb8 and \xc3\xc3\xa9 and \xff\u0301 and \xed\xa0\x80",
		"a" + strings.Repeat("\u0301", 60) + "b", strings.Repeat("\u0301", 60),
		strings.Repeat("\r", 30) + strings.Repeat("\n", 30), strings.Repeat("\r\n", 30),
		strings.Repeat("e\u0301\u4e00\xff\t\r\n\u0301", 10),
	}
}

// eachText hands over every text of at most most parts.
func eachText(parts []string, most int, do func(string)) {
	var grow func(s string, n int)
	grow = func(s string, n int) {
		do(s)
		if n < most {
			for _, p := range parts {
				grow(s+p, n+1)
			}
		}
	}
	grow("", 0)
}

// eachSmallText hands over the ordinary texts, every text of at most three pieces and every text of at most four of some bytes.
func eachSmallText(do func(string)) {
	for _, s := range ordinaryTexts() {
		do(s)
	}
	eachText(pieces, 3, do)
	eachText(someBytes, 4, do)
}

// joinOf joins the summaries of texts.
func joinOf(texts ...string) api.Summary {
	var parts []api.Summary
	for _, s := range texts {
		parts = append(parts, metric.Measure(s))
	}
	return metric.Join(parts...)
}

func checkJoin(t *testing.T, texts ...string) {
	if got, want := joinOf(texts...), summaryOf(strings.Join(texts, "")); got != want {
		t.Fatalf("P4.2: Join of %q: %+v, want %+v", texts, got, want)
	}
}

// checkCuts joins the two parts of s, cut at every place.
func checkCuts(t *testing.T, s string) {
	for at := 0; at <= len(s); at++ {
		checkJoin(t, s[:at], s[at:])
	}
}

// singleBytes are the bytes of s, each a text.
func singleBytes(s string) []string {
	var list []string
	for at := range len(s) {
		list = append(list, s[at:at+1])
	}
	return list
}

func TestMeasure(t *testing.T) {
	eachSmallText(func(s string) {
		if got, want := metric.Measure(s), summaryOf(s); got != want {
			t.Fatalf("P4.1: Measure(%q): %+v, want %+v", s, got, want)
		}
	})
}

// TestMeasureWrittenDown writes down what the reference reckons elsewhere.
func TestMeasureWrittenDown(t *testing.T) {
	for _, x := range []struct {
		s          string
		want       api.Summary
		head, tail string
	}{
		{"caf\u00e9", api.Summary{Bytes: 5, Units: 4, Clusters: 4, Cells: 4}, "caf\u00e9", "caf\u00e9"},
		{"\u4e00\u0301\u0301", api.Summary{Bytes: 7, Units: 3, Clusters: 1, Cells: 2}, "\u4e00\u0301\u0301", "\u4e00\u0301\u0301"},
		{"\n\u0301\n", api.Summary{Bytes: 4, Units: 3, Clusters: 3, Cells: 1, Newlines: 2}, "\n\u0301\n", "\n\u0301\n"},
		{"\n\r\n\r", api.Summary{Bytes: 4, Units: 4, Clusters: 3, Cells: 2, Newlines: 2}, "\n\r\n\r", "\n\r\n\r"},
		{"\t\u0085\u0301", api.Summary{Bytes: 5, Units: 3, Clusters: 3, Cells: 4}, "\t\u0085\u0301", "\t\u0085\u0301"},
		{"\xff\u0301\xe4\xb8", api.Summary{Bytes: 5, Units: 4, Clusters: 3, Cells: 3}, "\xff\u0301\xe4\xb8", "\xff\u0301\xe4\xb8"},
		{"0123456789abcde", api.Summary{Bytes: 15, Units: 15, Clusters: 15, Cells: 15}, "0123456789abcde", "0123456789abcde"},
		{"0123456789abcdef", api.Summary{Bytes: 16, Units: 16, Clusters: 16, Cells: 16}, "0123456789abcdef", "0123456789abcdef"},
		{"0123456789abcdefg", api.Summary{Bytes: 17, Units: 17, Clusters: 17, Cells: 17}, "0123456789abcdef", "123456789abcdefg"},
		{"0123456789abcd\u4e00", api.Summary{Bytes: 17, Units: 15, Clusters: 15, Cells: 16}, "0123456789abcd\xe4\xb8", "123456789abcd\u4e00"},
		{"\u4e000123456789abcd", api.Summary{Bytes: 17, Units: 15, Clusters: 15, Cells: 16}, "\u4e000123456789abc", "\xb8\x800123456789abcd"},
	} {
		x.want.Head, x.want.Tail = x.head, x.tail
		if got := metric.Measure(x.s); got != x.want {
			t.Errorf("P4.1: Measure(%q): %+v, want %+v", x.s, got, x.want)
		}
	}
}

// TestEnds has every length about the number of bytes that a summary keeps.
func TestEnds(t *testing.T) {
	for _, f := range fillings {
		long := strings.Repeat(f, 40)
		for n := range 40 {
			if got, want := metric.Measure(long[:n]), summaryOf(long[:n]); got != want {
				t.Errorf("P4.1: Measure(%q): %+v, want %+v", long[:n], got, want)
			}
		}
	}
}

func TestJoinCutEverywhere(t *testing.T) {
	eachSmallText(func(s string) { checkCuts(t, s) })
	eachText(seamPieces, 4, func(s string) { checkCuts(t, s) })
}

// TestJoinFarEnds has texts on both sides of which a summary keeps a part only; four lengths of the filling, because that is the most bytes of a unit that the keeping cuts through.
func TestJoinFarEnds(t *testing.T) {
	eachText(seamPieces, 3, func(s string) {
		for at := 0; at <= len(s); at++ {
			for _, f := range fillings {
				pad := strings.Repeat(f, 20)
				for n := 17; n <= 20; n++ {
					checkJoin(t, pad[len(pad)-n:]+s[:at], s[at:]+pad[:n])
				}
			}
		}
	})
}

// TestJoinShortAndLong has one text of which all is kept, and one of which a part is.
func TestJoinShortAndLong(t *testing.T) {
	for _, f := range fillings {
		for _, g := range fillings {
			one, two := strings.Repeat(f, 20), strings.Repeat(g, 20)
			for n := range 20 {
				for m := range 20 {
					checkJoin(t, one[:n], two[:m])
				}
			}
		}
	}
}

func TestJoinManyParts(t *testing.T) {
	for _, s := range ordinaryTexts() {
		checkJoin(t, singleBytes(s)...)
	}
	eachText(seamPieces, 3, func(s string) {
		checkJoin(t, singleBytes(s)...)
		for i := 0; i <= len(s); i++ {
			for j := i; j <= len(s); j++ {
				checkJoin(t, s[:i], s[i:j], s[j:])
				checkJoin(t, "", s[:i], "", "", s[i:j], s[j:], "")
			}
		}
	})
}

// TestJoinAnyOrder joins three parts in both ways: what is joined is itself a made summary.
func TestJoinAnyOrder(t *testing.T) {
	for _, s := range ordinaryTexts() {
		want := summaryOf(s)
		for i := 0; i <= len(s); i++ {
			for j := i; j <= len(s); j++ {
				a, b, c := metric.Measure(s[:i]), metric.Measure(s[i:j]), metric.Measure(s[j:])
				left, right := metric.Join(metric.Join(a, b), c), metric.Join(a, metric.Join(b, c))
				if left != want || right != want {
					t.Fatalf("P4.2: %q cut at %d and %d: %+v and %+v, want %+v", s, i, j, left, right, want)
				}
			}
		}
	}
}

func TestJoinNoneAndOne(t *testing.T) {
	if got := metric.Join(); got != (api.Summary{}) {
		t.Errorf("P4.2: Join(): %+v", got)
	}
	if got := metric.Join([]api.Summary{}...); got != (api.Summary{}) {
		t.Errorf("P4.2: Join of an empty list: %+v", got)
	}
	for _, n := range []int{1, 2, 5} {
		if got := metric.Join(make([]api.Summary, n)...); got != (api.Summary{}) {
			t.Errorf("P4.2: Join of %d summaries of nothing: %+v", n, got)
		}
	}
	eachText(pieces, 2, func(s string) {
		if got, want := metric.Join(summaryOf(s)), summaryOf(s); got != want {
			t.Fatalf("P4.2: Join of the summary of %q alone: %+v, want %+v", s, got, want)
		}
	})
}

// TestSeams writes down what seams change: the units, clusters and cells of the two texts together.
func TestSeams(t *testing.T) {
	for _, x := range []struct {
		name                   string
		a, b                   string
		units, clusters, cells int
	}{
		{"nothing", "ab", "cd", 4, 4, 4},
		{"a character of two bytes", "\xc3", "\xa9", 1, 1, 1},
		{"one of three, behind its first", "\xe4", "\xb8\x80", 1, 1, 2},
		{"one of three, behind its second", "\xe4\xb8", "\x80", 1, 1, 2},
		{"one of four, behind its first", "\xf0", "\x9f\x98\x80", 1, 1, 2},
		{"one of four, behind its second", "\xf0\x9f", "\x98\x80", 1, 1, 2},
		{"one of four, behind its third", "\xf0\x9f\x98", "\x80", 1, 1, 2},
		{"bytes that make no character", "\xe4\xb8", "a", 3, 3, 3},
		{"CR and LF", "\r", "\n", 2, 1, 0},
		{"CR CR and LF LF", "\r\r", "\n\n", 4, 3, 2},
		{"LF and CR", "\n", "\r", 2, 2, 2},
		{"a mark behind a plain one", "a", "\u0301", 2, 1, 1},
		{"a mark behind a wide one", "\u4e00", "\u0301", 2, 1, 2},
		{"a mark behind a mark", "\u0301", "\u0301", 2, 1, 1},
		{"a mark behind a newline", "\n", "\u0301", 2, 2, 1},
		{"a mark behind CR LF", "\r\n", "\u0301", 3, 2, 1},
		{"a mark behind a control", "\t", "\u0301", 2, 2, 3},
		{"a mark behind a control of two bytes", "\u0085", "\u0301", 2, 2, 2},
		{"a mark behind a bad byte", "\xff", "\u0301", 2, 1, 1},
		{"a plain one behind a mark", "a\u0301", "b", 3, 2, 2},
		{"a newline behind a mark", "\u0301", "\n", 2, 2, 1},
		{"a mark made at the seam, behind a plain one", "a\xcc", "\x81", 2, 1, 1},
		{"a mark made at the seam, behind a newline", "\n\xcc", "\x81", 2, 2, 1},
		{"a mark of four bytes, behind a control of two", "\u0085\xf3\xa0\x84", "\x80", 2, 2, 2},
		{"a mark of four bytes, behind a wide one of four", "\U0001f600\xf3", "\xa0\x84\x80\u0301", 3, 1, 2},
		{"a bad byte's mark gets a wide one", "\xe4\xb8", "\x80\u0301", 2, 1, 2},
		{"a bad byte's mark gets a control", "\xc2", "\x85\u0301", 2, 2, 2},
		{"a bad byte's mark of four bytes gets a control", "\xc2", "\x85\U000e0100", 2, 2, 2},
		{"a bad byte stays, and its mark", "\xff", "\x85\u0301", 3, 2, 2},
	} {
		got := joinOf(x.a, x.b)
		if got.Units != x.units || got.Clusters != x.clusters || got.Cells != x.cells {
			t.Errorf("P4.2: %s: %+v", x.name, got)
		}
		checkCuts(t, x.a+x.b)
	}
}

// TestLongText has a text of which almost nothing is kept.
func TestLongText(t *testing.T) {
	one, two := strings.Repeat("e\u0301\u4e00\xff\t\r\n\u0301", 1<<12)+"\xe4", "\xb8\x80"+strings.Repeat("\r\n\u0301\U0001f600", 1<<12)
	checkJoin(t, one, two)
	checkJoin(t, two, one)
	if m := metric.Measure(one); len(m.Head) != 16 || len(m.Tail) != 16 {
		t.Errorf("P4.1: ends of %d and %d bytes", len(m.Head), len(m.Tail))
	}
}

func TestJoinLeavesItsParts(t *testing.T) {
	texts := []string{"a\r", "\n", "\u0301", strings.Repeat("\u4e00", 9)}
	room := make([]api.Summary, 0, 8)
	for _, s := range texts {
		room = append(room, metric.Measure(s))
	}
	before := slices.Clone(room[:cap(room)])
	metric.Join(room...)
	metric.Join(room[:2]...)
	if !slices.Equal(room[:cap(room)], before) {
		t.Error("R3: Join changes what it is handed")
	}
}

// TestEndsAreNewMemory: a summary is kept with every piece of a text, and must not keep the text itself.
func TestEndsAreNewMemory(t *testing.T) {
	within := func(part, whole string) bool {
		from, at := uintptr(unsafe.Pointer(unsafe.StringData(whole))), uintptr(unsafe.Pointer(unsafe.StringData(part)))
		return from <= at && at < from+uintptr(len(whole))
	}
	for _, s := range []string{strings.Repeat("ab", 5), strings.Repeat("ab", 50)} {
		m := metric.Measure(s)
		if within(m.Head, s) || within(m.Tail, s) {
			t.Errorf("R3: the ends of the summary of %q are pieces of it", s)
		}
		one := metric.Join(m)
		if within(one.Head, m.Head) || within(one.Tail, m.Tail) {
			t.Errorf("R3: the ends of a join share memory with those of its part, of %q", s)
		}
		if text, ok := metric.Whole(m); ok && within(text, m.Head) {
			t.Errorf("R3: the whole text shares memory with the summary of %q", s)
		}
	}
}

func TestWhole(t *testing.T) {
	check := func(s string) {
		text, ok := metric.Whole(metric.Measure(s))
		if short := len(s) <= 16; ok != short || short && text != s || !short && text != "" {
			t.Fatalf("P4.3: Whole of the summary of %q: %q, %v", s, text, ok)
		}
	}
	eachSmallText(check)
	for _, f := range fillings {
		for n := range 40 {
			check(strings.Repeat(f, 40)[:n])
		}
	}
}

func TestWholeOfJoins(t *testing.T) {
	long := "0123456789abcdefg"
	for n := 14; n <= 17; n++ {
		for at := 0; at <= n; at++ {
			text, ok := metric.Whole(joinOf(long[:at], long[at:n]))
			if ok != (n <= 16) || ok && text != long[:n] || !ok && text != "" {
				t.Errorf("P4.3: Whole of the join of %d bytes, cut at %d: %q, %v", n, at, text, ok)
			}
		}
	}
}

// someOffsets are all within and around s, and the ends of int.
func someOffsets(s string) []int {
	list := []int{math.MinInt, math.MinInt + 1, math.MinInt32, math.MaxInt32, math.MaxInt - 1, math.MaxInt}
	for at := -2; at <= len(s)+2; at++ {
		list = append(list, at)
	}
	return list
}

func checkRange(t *testing.T, s string) {
	for _, i := range someOffsets(s) {
		for _, j := range someOffsets(s) {
			if got, want := metric.Range(s, i, j), summaryOf(betweenOf(s, i, j)); got != want {
				t.Fatalf("P4.4: Range(%q, %d, %d): %+v, want %+v", s, i, j, got, want)
			}
		}
	}
}

func TestRange(t *testing.T) {
	for _, s := range ordinaryTexts() {
		checkRange(t, s)
	}
	eachText(pieces, 2, func(s string) { checkRange(t, s) })
}

// TestRangeWrittenDown writes down what the reference reckons elsewhere.
func TestRangeWrittenDown(t *testing.T) {
	for _, x := range []struct {
		s    string
		i, j int
		want string
	}{
		{"abc", 0, 3, "abc"}, {"abc", 1, 2, "b"}, {"abc", 1, 1, ""}, {"abc", 2, 1, ""}, {"abc", 3, 3, ""},
		{"abc", -1, 2, "ab"}, {"abc", 1, 4, "bc"}, {"abc", -5, 99, "abc"}, {"abc", 99, -5, ""}, {"abc", 4, 9, ""}, {"abc", -9, -4, ""},
		{"abc", math.MinInt, math.MaxInt, "abc"}, {"abc", math.MaxInt, math.MinInt, ""}, {"abc", math.MinInt, math.MinInt, ""}, {"abc", math.MaxInt, math.MaxInt, ""},
		{"", 0, 0, ""}, {"", -1, 1, ""}, {"", math.MinInt, math.MaxInt, ""},
		{"a\u4e00b", 1, 4, "\u4e00"}, {"a\u4e00b", 2, 4, "\xb8\x80"}, {"a\u4e00b", 0, 3, "a\xe4\xb8"}, {"a\u4e00b", 2, 3, "\xb8"},
		{"\U0001f600", 1, 3, "\x9f\x98"}, {"e\u0301", 1, 3, "\u0301"}, {"\r\n", 1, 2, "\n"}, {"\r\n", 0, 1, "\r"},
	} {
		if got := metric.Range(x.s, x.i, x.j); got != summaryOf(x.want) {
			t.Errorf("P4.4: Range(%q, %d, %d): %+v, want the summary of %q", x.s, x.i, x.j, got, x.want)
		}
	}
}

// unmade are summaries of no text.
func unmade() []api.Summary {
	long := strings.Repeat("\u4e00\xff\r", 50)
	return []api.Summary{
		{Bytes: 1}, {Bytes: -1, Units: -1, Clusters: -1, Cells: -1, Newlines: -1}, {Bytes: 17, Head: "a"}, {Bytes: 5, Tail: "\r"},
		{Units: math.MaxInt, Clusters: math.MaxInt, Cells: math.MaxInt, Newlines: math.MaxInt, Bytes: math.MaxInt, Head: "\n", Tail: "\xe4"},
		{Units: math.MinInt, Clusters: math.MinInt, Cells: math.MinInt, Newlines: math.MinInt, Bytes: math.MinInt, Head: "\x80", Tail: "\xff"},
		{Head: "abc"}, {Tail: "abc"}, {Head: "a", Tail: "b"}, {Bytes: 3, Head: long, Tail: "\xe4\xb8"}, {Head: long, Tail: long}, {Tail: long},
	}
}

// TestUnmade asks for an end without a panic alone, as the chapter promises nothing else.
func TestUnmade(t *testing.T) {
	list := append(unmade(), api.Summary{}, metric.Measure("a"), metric.Measure("\x80\u0301"), metric.Measure(strings.Repeat("\u4e00", 9)))
	metric.Join(list...)
	for _, a := range list {
		metric.Join(a)
		metric.Whole(a)
		for _, b := range list {
			metric.Join(a, b)
			for _, c := range list {
				metric.Join(a, b, c)
			}
		}
	}
}
