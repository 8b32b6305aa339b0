package move_test

import (
	"math"
	"strings"
	"testing"
	"time"

	"bodkin/api"
	"bodkin/move"
	"bodkin/store"
)

// keeper is a store with a name.
type keeper struct {
	name  string
	store *store.Store
}

// keepers answers text kept by stores of every kind and backend.
func keepers(t *testing.T, text string) []keeper {
	t.Helper()
	n := len(text)
	list := twoKeepers(t, text)
	for _, x := range []struct {
		name         string
		lo, hi       int
		forced, want api.Kind
	}{
		{"a hybrid upon a gap buffer", n, n + 1, 0, api.KindGap},
		{"a hybrid upon a rope", 0, 1, api.KindRope, api.KindRope},
		{"a hybrid switched to a rope", n, n + 9, api.KindRope, api.KindRope},
		{"a hybrid switched to a gap buffer", -1, 2, api.KindGap, api.KindGap},
	} {
		s, e := store.New(api.KindHybrid, x.lo, x.hi, n, text)
		if e != api.OK {
			t.Fatal(e)
		}
		if x.forced != 0 {
			s.Switch(x.forced)
		}
		if s.Backend() != x.want {
			t.Fatal(x.name, "is one upon", s.Backend())
		}
		list = append(list, keeper{x.name, s})
	}
	within, _ := store.New(api.KindGap, 0, 1, n, text[n/2:])
	within.Insert(0, text[:n/2])
	return append(list, keeper{"a gap store with its gap within", within}, keeper{"a rope store of many edits", pieced(t, text)})
}

// twoKeepers answers text kept by a gap buffer and by a rope.
func twoKeepers(t *testing.T, text string) []keeper {
	t.Helper()
	gap, e := store.New(api.KindGap, 0, 1, len(text), text)
	rope, ropeE := store.New(api.KindRope, 0, 1, len(text), text)
	if e != api.OK || ropeE != api.OK {
		t.Fatal(e, ropeE)
	}
	return []keeper{{"a gap store", gap}, {"a rope store", rope}}
}

// pieced answers a rope store with text, which has come into it piece by piece, so that its leaves end anywhere.
func pieced(t *testing.T, text string) *store.Store {
	t.Helper()
	s, _ := store.New(api.KindRope, 0, 1, len(text), "")
	for from := 0; from < len(text); from += 45 {
		to := min(from+45, len(text))
		if e := s.Insert(from, text[from:to]); e != api.OK {
			t.Fatal(e)
		}
	}
	return s
}

// state is all that can be seen of a store.
type state struct {
	text          string
	kind, backend api.Kind
	counts        api.Counts
	lo, hi, limit int
}

func stateOf(s *store.Store) state {
	lo, hi := s.Thresholds()
	return state{text: s.Text(), kind: s.Kind(), backend: s.Backend(), counts: s.Counts(), lo: lo, hi: hi, limit: s.Limit()}
}

// lookAtGo holds one Go against the plain text.
func lookAtGo(t *testing.T, k keeper, p plain, kind api.CommandKind, at, goal, count int) {
	t.Helper()
	to, next, e := move.Go(k.store, kind, at, goal, count)
	if got, want := (answer{to, next, e}), p.goes(kind, at, goal, count); got != want {
		t.Fatalf("P16.2: Go(%d, %d, %d, %d) of %.199q by %s: %v, want %v", kind, at, goal, count, p.text, k.name, got, want)
	}
}

// lookAtSpan holds one Span against the plain text.
func lookAtSpan(t *testing.T, k keeper, p plain, kind api.CommandKind, at, count int) {
	t.Helper()
	got, e := move.Span(k.store, kind, at, count)
	if want, wantE := p.span(kind, at, count); got != want || e != wantE {
		t.Fatalf("P16.3: Span(%d, %d, %d) of %.199q by %s: %v, %v, want %v, %v", kind, at, count, p.text, k.name, got, e, want, wantE)
	}
}

// lookAtColumns holds Column against the plain text.
func lookAtColumns(t *testing.T, k keeper, p plain, offsets []int) {
	t.Helper()
	for _, at := range offsets {
		if got, want := move.Column(k.store, at), p.column(at); got != want {
			t.Fatalf("P16.4: Column(%d) of %.199q by %s: %d, want %d", at, p.text, k.name, got, want)
		}
	}
}

// lookAtPlaces holds Place against the plain text.
func lookAtPlaces(t *testing.T, k keeper, p plain, numbers, columns []int) {
	t.Helper()
	for _, line := range numbers {
		for _, column := range columns {
			if got, want := move.Place(k.store, line, column), p.place(line, column); got != want {
				t.Fatalf("P16.4: Place(%d, %d) of %.199q by %s: %d, want %d", line, column, p.text, k.name, got, want)
			}
		}
	}
}

// about lists the numbers from 0 to n with some beside them.
func about(n int) []int {
	var list []int
	for i := -2; i <= n+2; i++ {
		list = append(list, i)
	}
	return list
}

// upAndDown tells the motions that go by a goal.
func upAndDown(kind api.CommandKind) bool {
	return kind == api.DoUp || kind == api.DoDown
}

// lookAtMotions holds every motion from the offsets against the plain text. Motions that pass the goal over are asked with two of them.
func lookAtMotions(t *testing.T, k keeper, p plain, offsets, goals, counts []int) {
	t.Helper()
	for _, kind := range theMotions {
		asked := []int{-1, 7}
		if upAndDown(kind) {
			asked = goals
		}
		for _, at := range offsets {
			for _, count := range counts {
				for _, goal := range asked {
					lookAtGo(t, k, p, kind, at, goal, count)
				}
				lookAtSpan(t, k, p, kind, at, count)
			}
		}
	}
}

// widest answers the greatest column of a boundary.
func (p plain) widest() int {
	most := 0
	for _, b := range p.boundaries {
		most = max(most, b.column)
	}
	return most
}

// lookAtAll holds every call at every number against the plain text, by all of the keepers, and asks that nothing changes them.
func lookAtAll(t *testing.T, list []keeper, text string) {
	t.Helper()
	p := cut(text)
	for _, k := range list {
		before := stateOf(k.store)
		lookAtMotions(t, k, p, about(len(text)), []int{-3, -1, 0, 1, 2, 3, 99}, []int{-1, 1, 2, 99})
		lookAtColumns(t, k, p, about(len(text)))
		lookAtPlaces(t, k, p, about(len(p.lines)), about(p.widest()))
		if after := stateOf(k.store); after != before {
			t.Fatalf("P16.5: %s was %.299v and is %.299v", k.name, before, after)
		}
	}
}

// every calls look with each text of at most most of the pieces.
func every(pieces []string, most int, look func(string)) {
	var grow func(text string, most int)
	grow = func(text string, most int) {
		look(text)
		for _, piece := range pieces {
			if most > 0 {
				grow(text+piece, most-1)
			}
		}
	}
	grow("", most)
}

// TestShortTexts has all texts of few pieces: newlines of both kinds, CR without LF, marks, wide ones, controls, bad bytes, words and what is none.
func TestShortTexts(t *testing.T) {
	look := func(text string) { lookAtAll(t, twoKeepers(t, text), text) }
	every([]string{"a", " ", "\n", "\r", "\u0301", "\u4e00", "\x01", "\u0085", "\xff", "\U0001F600", "\xe4\xb8"}, 2, look)
	every([]string{"a", "-", "\n", "\r", "\u0301", "\u4e00"}, 3, look)
	every([]string{"\n", "\r", "\u4e00", "x"}, 4, look)
	every([]string{"\n", "\r"}, 6, look)
	every([]string{"a", " "}, 5, look)
}

// TestShortTextsByAll has some of them in stores of every kind.
func TestShortTextsByAll(t *testing.T) {
	look := func(text string) { lookAtAll(t, keepers(t, text), text) }
	every([]string{"a", "\r\n", "\u4e00\u0301", "-\u0301", "\r"}, 2, look)
	every([]string{"ab \n", "\u4e00\u4e00\r\n", "\x01", "\xff"}, 3, look)
}

// numbers answers numbers that look mixed, the same ones at each run.
func numbers(seed uint64) func(below int) int {
	return func(below int) int {
		seed = seed*6364136223846793005 + 1442695040888963407
		return int(seed>>33) % below
	}
}

// mixed answers a text of n lines or so, most of them of at most most pieces.
func mixed(seed uint64, n, most int) string {
	next := numbers(seed)
	pieces := []string{"a", "b ", "\u4e00", "\u0301", "\u0301\u0301\u0301", "\r", "\t", "\xff", "\xf0\x9f\x98", "\U0001F600", "\u0085\u0301", "word", "  - ", "\u3000\u0301"}
	var out strings.Builder
	for range n {
		for range next(most + 1) {
			out.WriteString(pieces[next(len(pieces))])
		}
		out.WriteString([]string{"\n", "\r\n", "\r\r\n", "\n\n"}[next(4)])
	}
	return out.String()
}

// someOf answers each of the numbers that stands that far behind the one before.
func someOf(numbers []int, far int) []int {
	var list []int
	for i := 0; i < len(numbers); i += far {
		list = append(list, numbers[i])
	}
	return list
}

// lookAtLong holds calls from every place of a longer text against the plain one, with numbers that go far and near.
func lookAtLong(t *testing.T, text string) {
	t.Helper()
	p := cut(text)
	widest := p.widest()
	for n, k := range keepers(t, text) {
		before := stateOf(k.store)
		offsets := about(len(text))
		if n > 1 {
			offsets = someOf(offsets, 7)
		}
		lookAtMotions(t, k, p, offsets, []int{-1, widest / 2}, []int{1, 7})
		lookAtColumns(t, k, p, about(len(text)))
		lookAtPlaces(t, k, p, about(len(p.lines)), []int{-1, 0, 1, widest / 3, widest - 1, widest, widest + 1})
		if after := stateOf(k.store); after != before {
			t.Fatalf("P16.5: %s was %.299v and is %.299v", k.name, before, after)
		}
	}
}

// TestLongTexts has texts of many short lines, of some long ones, and of both.
func TestLongTexts(t *testing.T) {
	lookAtLong(t, mixed(1, 30, 4))
	lookAtLong(t, mixed(2, 3, 80))
	lookAtLong(t, "first line\n"+mixed(3, 8, 15)+"without a newline")
	lookAtLong(t, strings.Repeat("\r\n", 80))
	lookAtLong(t, strings.Repeat("\r", 100)+"\n"+strings.Repeat("\r", 100))
	lookAtLong(t, strings.Repeat("\u4e00 ", 40)+strings.Repeat("\n\u4e00a", 20))
}

// TestLongWords has words, and what stands between them, of each length about those at which pieces are cut.
func TestLongWords(t *testing.T) {
	for _, fill := range []string{"x", "\u4e00", "e\u0301"} {
		for _, between := range []string{" ", "\u3000", "-\u0301", "\xff"} {
			for n := 58; n <= 200; n++ {
				if n%64 > 6 && n%64 < 60 {
					continue
				}
				long, gap := strings.Repeat(fill, n/len(fill)), strings.Repeat(between, n/len(between))
				for _, text := range []string{long, gap, long + "-" + long, "a" + gap + "b", gap + long + gap} {
					lookAtEnds(t, text)
				}
			}
		}
	}
}

// lookAtEnds has the motions by words from the text's ends, and from some places between.
func lookAtEnds(t *testing.T, text string) {
	t.Helper()
	p := cut(text)
	n := len(text)
	for _, k := range twoKeepers(t, text) {
		for _, at := range []int{0, 1, 5, n / 2, n - 5, n - 1, n} {
			for _, kind := range []api.CommandKind{api.DoWordLeft, api.DoWordRight} {
				lookAtGo(t, k, p, kind, at, -1, 1)
				lookAtGo(t, k, p, kind, at, -1, 2)
			}
		}
	}
}

// TestLongClusters has clusters of many marks, in words and outside of them: a mark is a word character, but not where it belongs to another one.
func TestLongClusters(t *testing.T) {
	for _, n := range []int{15, 31, 32, 33, 63, 64, 65, 100} {
		marks := strings.Repeat("\u0301", n)
		for _, text := range []string{marks, "-" + marks + "b", "a" + marks + "b", "ab -" + marks, "a" + marks + "-" + marks + "-b", "\r\n" + marks + "\n", "\x01" + marks + " \u4e00" + marks + "x"} {
			p := cut(text)
			var offsets []int
			for _, b := range p.boundaries {
				offsets = append(offsets, b.at-1, b.at, b.at+1)
			}
			for _, k := range keepers(t, text) {
				lookAtMotions(t, k, p, offsets, []int{-1, 1}, []int{1, 2})
				lookAtColumns(t, k, p, offsets)
			}
		}
	}
}

// wrongNumbers are far out of every range.
var wrongNumbers = []int{math.MinInt, math.MinInt + 1, -1 << 32, -1 << 31, -1001, 1 << 30, 1<<30 + 1, 1 << 31, 1 << 32, math.MaxInt - 2, math.MaxInt - 1, math.MaxInt}

// TestWrongNumbers has numbers far out of every range, alone and with right ones.
func TestWrongNumbers(t *testing.T) {
	numbers := append([]int{-1, 0, 1, 3}, wrongNumbers...)
	for _, text := range []string{"", "\n", "ab\u0301\r\n\u4e00 c\n", mixed(5, 4, 10)} {
		p := cut(text)
		for _, k := range twoKeepers(t, text) {
			before := stateOf(k.store)
			lookAtMotions(t, k, p, numbers, numbers, numbers)
			lookAtColumns(t, k, p, numbers)
			lookAtPlaces(t, k, p, numbers, numbers)
			if after := stateOf(k.store); after != before {
				t.Fatalf("P16.5: %s was %.299v and is %.299v", k.name, before, after)
			}
		}
	}
}

// TestEditedTexts edits stores of all kinds in the same way, and looks at them between the edits: nothing is kept of an earlier text.
func TestEditedTexts(t *testing.T) {
	next := numbers(9)
	puts := []string{"ab", "\n", "\r", "\u0301", "\u4e00 ", "\r\n", "", "- x"}
	for range 4 {
		text, list := "", []keeper(nil)
		for kind := api.KindGap; kind <= api.KindHybrid; kind++ {
			s, _ := store.New(kind, 20, 40, 1000, "")
			list = append(list, keeper{"an edited store", s})
		}
		for range 40 {
			at := next(len(text) + 1)
			cutOut, put := next(min(len(text)-at, 4)+1), puts[next(len(puts))]+puts[next(len(puts))]
			text = text[:at] + put + text[at+cutOut:]
			p := cut(text)
			for _, k := range list {
				if _, e := k.store.Replace(at, cutOut, put); e != api.OK || k.store.Text() != text {
					t.Fatalf("P16.5: %q, want %q", k.store.Text(), text)
				}
				lookAtMotions(t, k, p, []int{0, 1, at, len(text) / 2, len(text)}, []int{-1, 2}, []int{1, 3})
				lookAtColumns(t, k, p, []int{at, len(text)})
				lookAtPlaces(t, k, p, []int{0, 1, 2, 99}, []int{0, 1, 5})
			}
		}
	}
}

// TestTime makes motions in long texts: the whole text read at each of them, or a line counted from the text's beginning at each of a thousand steps, would take many minutes.
func TestTime(t *testing.T) {
	begun := time.Now()
	line := "e\u0301 line \u4e00\r\n"
	rope, _ := store.New(api.KindRope, 0, 1, 1<<30, strings.Repeat(line, 1<<20))
	n := rope.Len()
	for at := 0; at < n; at += n / 1000 {
		for _, kind := range theMotions {
			if to, _, e := move.Go(rope, kind, at, -1, 1); e != api.OK && e != api.ErrEdge || to < 0 || to > n {
				t.Fatal("P16.2:", kind, at, to, e)
			}
		}
	}
	for at := 0; at < n; at += n / 20000 {
		ahead, _, _ := move.Go(rope, api.DoWordRight, at, -1, 1)
		back, _, _ := move.Go(rope, api.DoWordLeft, ahead, -1, 1)
		if ahead-back > len(line) {
			t.Fatal("P16.2: the word from", back, "to", ahead)
		}
	}
	gap, _ := store.New(api.KindGap, 0, 1, 1<<30, strings.Repeat(line, 1<<17))
	for _, k := range []*store.Store{rope, gap} {
		for _, kind := range theMotions {
			for _, at := range []int{0, k.Len() / 2, k.Len()} {
				if to, _, e := move.Go(k, kind, at, -1, 1000); e != api.OK && e != api.ErrEdge || to < 0 || to > k.Len() {
					t.Fatal("P16.2:", kind, at, to, e)
				}
			}
		}
	}
	if d := time.Since(begun); d > time.Minute {
		t.Error("layer 16: the motions take", d)
	}
}
