package log_test

import (
	"math"
	"slices"
	"strings"
	"testing"
	"unsafe"

	"bodkin/api"
	"bodkin/log"
)

// wrongNumbers are no offsets of a short text; sums of two of them wrap round.
var wrongNumbers = []int{math.MinInt, math.MinInt + 1, math.MinInt + 3, -1 << 32, -2, -1, 1 << 32, math.MaxInt - 3, math.MaxInt - 2, math.MaxInt - 1, math.MaxInt}

// numbers answers numbers that look mixed, the same ones at each run.
func numbers(seed uint64) func(below int) int {
	return func(below int) int {
		seed = seed*6364136223846793005 + 1442695040888963407
		return int(seed>>33) % below
	}
}

// textsUpTo lists all texts of at most n of the letters.
func textsUpTo(n int, letters string) []string {
	list := []string{""}
	for from := 0; n > 0; n-- {
		to := len(list)
		for _, s := range list[from:to] {
			for i := range len(letters) {
				list = append(list, s+letters[i:i+1])
			}
		}
		from = to
	}
	return list
}

// deltasOf lists all deltas of these places and texts.
func deltasOf(places []int, outs, ins []string) []api.Delta {
	var list []api.Delta
	for _, at := range places {
		for _, out := range outs {
			for _, in := range ins {
				list = append(list, api.Delta{At: at, Out: out, In: in})
			}
		}
	}
	return list
}

func TestInvert(t *testing.T) {
	texts := []string{"", "a", "b", "ab", "a\xff\x00", "\u4e00", strings.Repeat("long", 999)}
	for _, d := range deltasOf(append([]int{0, 1, 7}, wrongNumbers...), texts, texts) {
		got := log.Invert(d)
		if got.At != d.At || got.Out != d.In || got.In != d.Out {
			t.Fatalf("P12.1: Invert(%+.99v): %+.99v", d, got)
		}
		if log.Invert(got) != d {
			t.Fatalf("P12.1: Invert of %+.99v, twice: %+.99v", d, log.Invert(got))
		}
	}
	if got := log.Invert(api.Delta{}); got != (api.Delta{}) {
		t.Errorf("P12.1: Invert of the zero delta: %+v", got)
	}
	if got := log.Invert(api.Delta{At: -5, In: "x"}); got != (api.Delta{At: -5, Out: "x"}) {
		t.Errorf("P12.1: Invert at -5: %+v", got)
	}
}

// TestInvertTakesBack: what a delta did, its opposite takes back.
func TestInvertTakesBack(t *testing.T) {
	for _, text := range textsUpTo(3, "ab") {
		for _, d := range deltasOf([]int{0, 1, 2, 3}, textsUpTo(2, "ab"), []string{"", "a", "xyz"}) {
			behind, ok := log.Apply(text, d)
			if !ok {
				continue
			}
			if got, ok := log.Apply(behind, log.Invert(d)); got != text || !ok {
				t.Fatalf("P12.1: %q by %+v, and back: %q, %v", text, d, got, ok)
			}
		}
	}
}

func holdApply(t *testing.T, text string, deltas ...api.Delta) {
	t.Helper()
	got, ok := log.Apply(text, deltas...)
	if want, wantOK := applied(text, deltas); got != want || ok != wantOK {
		t.Fatalf("P12.2: Apply(%.99q, %+.99v): %.99q, %v, want %.99q, %v", text, deltas, got, ok, want, wantOK)
	}
}

// TestApplyOfOne has every short delta upon every short text, whether it fits or not.
func TestApplyOfOne(t *testing.T) {
	places := append([]int{0, 1, 2, 3, 4, 5, 6}, wrongNumbers...)
	deltas := deltasOf(places, textsUpTo(3, "ab"), []string{"", "a", "xy\xff"})
	for _, text := range textsUpTo(4, "ab") {
		for _, d := range deltas {
			holdApply(t, text, d)
		}
	}
}

// TestApplyOfTwo: the second delta meets the text that the first one left.
func TestApplyOfTwo(t *testing.T) {
	deltas := deltasOf([]int{-1, 0, 1, 2, 3}, textsUpTo(2, "ab"), []string{"", "a", "ba"})
	for _, text := range textsUpTo(2, "ab") {
		holdApply(t, text)
		for _, first := range deltas {
			for _, second := range deltas {
				holdApply(t, text, first, second)
			}
		}
	}
}

// someDelta answers a delta that fits text.
func someDelta(next func(int) int, text string) api.Delta {
	at := next(len(text) + 1)
	cut := min(next(9), len(text)-at)
	in := []string{"", "x", "ab", "\r\n", "\xff", "\u4e00\u0301", "a long piece of text "}[next(7)]
	return api.Delta{At: at, Out: text[at : at+cut], In: in}
}

// TestApplyOfMany has long runs of deltas that fit, and the same runs with one that doesn't at one place.
func TestApplyOfMany(t *testing.T) {
	next := numbers(5)
	for range 300 {
		first := strings.Repeat("some text\n", next(20))
		text := first
		var deltas []api.Delta
		for range 1 + next(100) {
			d := someDelta(next, text)
			deltas = append(deltas, d)
			text, _ = applied(text, []api.Delta{d})
		}
		if got, ok := log.Apply(first, deltas...); got != text || !ok {
			t.Fatalf("P12.2: %d deltas: %q, %v, want %q", len(deltas), got, ok, text)
		}
		broken := next(len(deltas))
		deltas[broken].Out += "\x00"
		if got, ok := log.Apply(first, deltas...); got != "" || ok {
			t.Fatalf("P12.2: the delta %d of %d doesn't fit: %q, %v", broken, len(deltas), got, ok)
		}
	}
}

func TestApplyWrittenDown(t *testing.T) {
	for _, c := range []struct {
		text   string
		deltas []api.Delta
		want   string
		ok     bool
	}{
		{"", nil, "", true},
		{"abc", nil, "abc", true},
		{"abc", []api.Delta{}, "abc", true},
		{"", []api.Delta{{}}, "", true},
		{"", []api.Delta{{In: "x"}}, "x", true},
		{"", []api.Delta{{Out: "x"}}, "", false},
		{"", []api.Delta{{At: 1}}, "", false},
		{"abc", []api.Delta{{At: 3}}, "abc", true},
		{"abc", []api.Delta{{At: 4}}, "", false},
		{"abc", []api.Delta{{At: -1}}, "", false},
		{"abc", []api.Delta{{At: -1, Out: "a"}}, "", false},
		{"abc", []api.Delta{{At: 2, Out: "cd"}}, "", false},
		{"abc", []api.Delta{{At: 0, Out: "abcd"}}, "", false},
		{"abc", []api.Delta{{At: 0, Out: "abc"}}, "", true},
		{"abc", []api.Delta{{At: 0, Out: "bc"}}, "", false},
		{"abc", []api.Delta{{At: 2, Out: "c", In: "c"}}, "abc", true},
		{"abc", []api.Delta{{At: math.MaxInt}}, "", false},
		{"abc", []api.Delta{{At: math.MaxInt, Out: "abc"}}, "", false},
		{"abc", []api.Delta{{At: math.MaxInt - 1, Out: "abc", In: "x"}}, "", false},
		{"abc", []api.Delta{{At: math.MinInt}}, "", false},
		{"abc", []api.Delta{{At: math.MinInt, Out: "abc"}}, "", false},
		{"abc", []api.Delta{{In: "x"}, {At: 1, Out: "x"}}, "", false},
		{"abc", []api.Delta{{At: 1, Out: "x"}, {In: "x"}}, "", false},
		{"abc", []api.Delta{{In: "x"}, {At: 4, In: "y"}, {At: 1, Out: "a", In: "A"}}, "xAbcy", true},
		{"\xff\x00", []api.Delta{{At: 1, Out: "\x00", In: "\xfe"}}, "\xff\xfe", true},
		{"\u4e00", []api.Delta{{At: 1, Out: "\xb8"}}, "\xe4\x80", true},
	} {
		if got, ok := log.Apply(c.text, c.deltas...); got != c.want || ok != c.ok {
			t.Errorf("P12.2: Apply(%q, %+v): %q, %v", c.text, c.deltas, got, ok)
		}
	}
}

func holdMerge(t *testing.T, a, b api.Delta) (api.Delta, bool) {
	t.Helper()
	got, ok := log.Merge(a, b)
	if want, wantOK := merged(a, b); got != want || ok != wantOK {
		t.Fatalf("P12.3: Merge(%+.99v, %+.99v): %+.99v, %v, want %+.99v, %v", a, b, got, ok, want, wantOK)
	}
	return got, ok
}

// TestMergeOfEveryTwo has all ways in which two short texts can lie to each other, with the same bytes and with others.
func TestMergeOfEveryTwo(t *testing.T) {
	places := []int{-2, -1, 0, 1, 2, 3, 4, 5}
	short, long := []string{"", "o", "po"}, textsUpTo(3, "ab")
	for _, a := range deltasOf(places, short, long) {
		for _, b := range deltasOf(places, long, short) {
			holdMerge(t, a, b)
		}
	}
}

// TestMergeByWrongNumbers has places about both ends of int, where a sum would wrap round.
func TestMergeByWrongNumbers(t *testing.T) {
	places := append([]int{0, 1, 2, 3}, wrongNumbers...)
	texts := []string{"", "a", "ab", "abab", "bbbb"}
	for _, a := range deltasOf(places, []string{"", "o"}, texts) {
		for _, b := range deltasOf(places, texts, []string{"", "i"}) {
			holdMerge(t, a, b)
		}
	}
}

func TestMergeWrittenDown(t *testing.T) {
	for _, c := range []struct {
		name       string
		a, b, want api.Delta
		ok         bool
	}{
		{"two empty ones", api.Delta{At: 3}, api.Delta{At: 3}, api.Delta{At: 3}, true},
		{"two empty ones apart", api.Delta{At: 3}, api.Delta{At: 4}, api.Delta{}, false},
		{"touch at the end", api.Delta{At: 2, Out: "o", In: "ab"}, api.Delta{At: 4, Out: "p", In: "q"}, api.Delta{At: 2, Out: "op", In: "abq"}, true},
		{"one behind the end", api.Delta{At: 2, Out: "o", In: "ab"}, api.Delta{At: 5, Out: "p", In: "q"}, api.Delta{}, false},
		{"touch at the beginning", api.Delta{At: 2, Out: "o", In: "ab"}, api.Delta{At: 0, Out: "pr", In: "q"}, api.Delta{At: 0, Out: "pro", In: "qab"}, true},
		{"one ahead of the beginning", api.Delta{At: 2, Out: "o", In: "ab"}, api.Delta{At: 0, Out: "p", In: "q"}, api.Delta{}, false},
		{"b within a", api.Delta{At: 2, Out: "o", In: "abcd"}, api.Delta{At: 3, Out: "bc", In: "X"}, api.Delta{At: 2, Out: "o", In: "aXd"}, true},
		{"a within b", api.Delta{At: 2, Out: "o", In: "ab"}, api.Delta{At: 1, Out: "xaby", In: "Q"}, api.Delta{At: 1, Out: "xoy", In: "Q"}, true},
		{"b takes a back", api.Delta{At: 2, Out: "o", In: "ab"}, api.Delta{At: 2, Out: "ab", In: "o"}, api.Delta{At: 2, Out: "o", In: "o"}, true},
		{"overlap at a's beginning", api.Delta{At: 2, Out: "o", In: "ab"}, api.Delta{At: 1, Out: "xa", In: "Q"}, api.Delta{At: 1, Out: "xo", In: "Qb"}, true},
		{"overlap at a's end", api.Delta{At: 2, Out: "o", In: "ab"}, api.Delta{At: 3, Out: "bx", In: "Q"}, api.Delta{At: 2, Out: "ox", In: "aQ"}, true},
		{"other bytes at a's beginning", api.Delta{At: 2, Out: "o", In: "ab"}, api.Delta{At: 1, Out: "xb", In: "Q"}, api.Delta{}, false},
		{"other bytes at a's end", api.Delta{At: 2, Out: "o", In: "ab"}, api.Delta{At: 3, Out: "ax", In: "Q"}, api.Delta{}, false},
		{"other bytes within a", api.Delta{At: 2, In: "abcd"}, api.Delta{At: 3, Out: "bd"}, api.Delta{}, false},
		{"other bytes within b", api.Delta{At: 2, In: "ab"}, api.Delta{At: 1, Out: "xaay"}, api.Delta{}, false},
		{"a cuts, b cuts about it", api.Delta{At: 2, Out: "o"}, api.Delta{At: 1, Out: "xy"}, api.Delta{At: 1, Out: "xoy"}, true},
		{"a below 0", api.Delta{At: -1, In: "abc"}, api.Delta{At: 0}, api.Delta{}, false},
		{"b below 0", api.Delta{At: 0, In: "abc"}, api.Delta{At: -1, Out: "xabc"}, api.Delta{}, false},
		{"the greatest int", api.Delta{At: math.MaxInt, Out: "o", In: "ab"}, api.Delta{At: math.MaxInt, Out: "a", In: "q"}, api.Delta{At: math.MaxInt, Out: "o", In: "qb"}, true},
		{"b beyond the greatest int", api.Delta{At: math.MaxInt, In: "ab"}, api.Delta{At: math.MaxInt - 1, Out: "xaby"}, api.Delta{At: math.MaxInt - 1, Out: "xy"}, true},
		{"the greatest int and 0", api.Delta{At: math.MaxInt, In: "ab"}, api.Delta{At: 0, Out: "ab"}, api.Delta{}, false},
		{"0 and the greatest int", api.Delta{At: 0, In: "ab"}, api.Delta{At: math.MaxInt, Out: "ab"}, api.Delta{}, false},
		{"the least int", api.Delta{At: math.MinInt, In: "ab"}, api.Delta{At: math.MinInt, Out: "ab"}, api.Delta{}, false},
		{"the greatest and the least int", api.Delta{At: math.MaxInt, In: "ab"}, api.Delta{At: math.MinInt, Out: "ab"}, api.Delta{}, false},
		{"the least and the greatest int", api.Delta{At: math.MinInt, In: "ab"}, api.Delta{At: math.MaxInt, Out: "ab"}, api.Delta{}, false},
	} {
		if got, ok := log.Merge(c.a, c.b); got != c.want || ok != c.ok {
			t.Errorf("P12.3: %s: Merge(%+v, %+v): %+v, %v, want %+v, %v", c.name, c.a, c.b, got, ok, c.want, c.ok)
		}
	}
}

// holdBoth holds the merged delta against both of its parts upon a text, and answers whether they fit and whether they merge.
func holdBoth(t *testing.T, text string, a, b api.Delta) (fit, one bool) {
	t.Helper()
	want, fit := applied(text, []api.Delta{a, b})
	m, one := log.Merge(a, b)
	if !fit || !one {
		return fit, one
	}
	if got, ok := log.Apply(text, m); got != want || !ok {
		t.Fatalf("P12.3: %q by %+v and %+v: %q; by %+v: %q, %v", text, a, b, want, m, got, ok)
	}
	return fit, one
}

// TestMergeDoesBoth: for every text that a fits, and then b, the merged one fits it too and leaves the same text.
func TestMergeDoesBoth(t *testing.T) {
	list := deltasOf([]int{0, 1, 2, 3}, textsUpTo(2, "ab"), textsUpTo(2, "ab"))
	many := 0
	for _, text := range textsUpTo(4, "ab") {
		for _, a := range list {
			if !fitsPlainly(text, a) {
				continue
			}
			for _, b := range list {
				fit, one := holdBoth(t, text, a, b)
				if fit && one != touching(a, b) {
					t.Fatalf("P12.3: %+v and then %+v fit %q, but Merge is %v", a, b, text, one)
				}
				if fit && one {
					many++
				}
			}
		}
	}
	if many < 10000 {
		t.Error("the test itself: too few deltas merge:", many)
	}
}

// TestMergeOfLongTexts merges one delta after the other into one, as long as they touch.
func TestMergeOfLongTexts(t *testing.T) {
	next := numbers(11)
	for range 200 {
		first := strings.Repeat("a text, ", 1+next(30))
		one := someDelta(next, first)
		text, _ := applied(first, []api.Delta{one})
		for range 200 {
			d := someDelta(next, text)
			m, ok := holdMerge(t, one, d)
			if ok != touching(one, d) {
				t.Fatalf("P12.3: %+v and then %+v fit %q, but Merge is %v", one, d, first, ok)
			}
			if !ok {
				continue
			}
			one = m
			text, _ = applied(text, []api.Delta{d})
			if got, ok := log.Apply(first, one); got != text || !ok {
				t.Fatalf("P12.3: the merged %+v leaves %q, %v, want %q", one, got, ok, text)
			}
		}
	}
}

// within answers whether part lies in whole's memory.
func within(part, whole string) bool {
	from, at := uintptr(unsafe.Pointer(unsafe.StringData(whole))), uintptr(unsafe.Pointer(unsafe.StringData(part)))
	return part != "" && from <= at && at < from+uintptr(len(whole))
}

// TestDeltasAreNewMemory has answers that might be an argument itself.
func TestDeltasAreNewMemory(t *testing.T) {
	long := strings.Repeat("some text ", 9)
	d := api.Delta{At: 0, Out: long, In: long}
	inverted := log.Invert(d)
	text, _ := log.Apply(long)
	same, _ := log.Apply("", api.Delta{In: long})
	out, _ := log.Merge(api.Delta{}, api.Delta{Out: long})
	in, _ := log.Merge(api.Delta{In: long}, api.Delta{})
	both, _ := log.Merge(d, api.Delta{})
	for n, got := range []string{inverted.Out, inverted.In, text, same, out.Out, in.In, both.Out, both.In} {
		if got != long {
			t.Errorf("the test itself: the answer %d is %q", n, got)
		}
		if within(got, long) {
			t.Errorf("R3: the answer %d is a piece of an argument", n)
		}
	}
}

func TestDeltasStay(t *testing.T) {
	deltas := []api.Delta{{At: 1, Out: "b", In: "XY"}, {At: 0, Out: "aX", In: ""}, {At: 9, Out: "z", In: "spare"}}
	kept := slices.Clone(deltas)
	if got, ok := log.Apply("abc", deltas[:2]...); got != "Yc" || !ok {
		t.Errorf("P12.2: %q, %v", got, ok)
	}
	log.Merge(deltas[0], deltas[1])
	log.Invert(deltas[0])
	if !slices.Equal(deltas, kept) {
		t.Errorf("R3: deltas that were handed in have changed: %+v", deltas)
	}
}
