package lines_test

import (
	"math"
	"slices"
	"strings"
	"testing"
	"time"

	"bodkin/api"
	"bodkin/gap"
	"bodkin/lines"
	"bodkin/store"
)

// wrongNumbers are far out of every range.
var wrongNumbers = []int{math.MinInt, math.MinInt + 1, math.MinInt + 2, -1 << 32, -1 << 31, 1 << 30, 1<<30 + 1, 1 << 31, 1 << 32, math.MaxInt - 2, math.MaxInt - 1, math.MaxInt}

// keeper is a text with a name for what keeps it.
type keeper struct {
	name string
	text store.Text
}

// keepers answers text kept by gap buffers and by stores of every kind and backend.
func keepers(t *testing.T, text string) []keeper {
	t.Helper()
	n := len(text)
	behind, e := gap.New(text, n)
	within, _ := gap.New(text, n+9)
	within.Move(n / 2)
	list := []keeper{{"a buffer", behind}, {"a buffer with its gap within", within}}
	if e != api.OK {
		t.Fatal(e)
	}
	for _, x := range []struct {
		name   string
		kind   api.Kind
		lo, hi int
	}{{"a gap store", api.KindGap, 2, 4}, {"a rope store", api.KindRope, 2, 4}, {"a hybrid", api.KindHybrid, 2, 4}, {"a hybrid of high thresholds", api.KindHybrid, n, n + 1}} {
		s, e := store.New(x.kind, x.lo, x.hi, n, text)
		if e != api.OK {
			t.Fatal(e)
		}
		list = append(list, keeper{x.name, s})
	}
	switched, _ := store.New(api.KindHybrid, n, n+1, n, text)
	switched.Switch(api.KindRope)
	return append(list, keeper{"a hybrid that was switched", switched}, keeper{"a rope store of many edits", pieced(t, text)})
}

// pieced answers a rope store with text, which has come into it piece by piece, so that its leaves end anywhere.
func pieced(t *testing.T, text string) *store.Store {
	t.Helper()
	s, _ := store.New(api.KindRope, 0, 1, len(text), "")
	for from := 0; from < len(text); from += 45 {
		to := min(from+45, len(text))
		if e := s.Insert(from, text[from:to]); e != api.OK {
			t.Fatal(e)
		}
	}
	return s
}

// state is all that can be seen of what keeps a text.
type state struct {
	text                      string
	kind, backend             api.Kind
	counts                    api.Counts
	lo, hi, limit, place, cap int
}

func stateOf(t store.Text) state {
	switch t := t.(type) {
	case *store.Store:
		lo, hi := t.Thresholds()
		return state{text: t.Text(), kind: t.Kind(), backend: t.Backend(), counts: t.Counts(), lo: lo, hi: hi, limit: t.Limit()}
	case *gap.Buffer:
		return state{text: t.Text(), limit: t.Limit(), place: t.Place(), cap: t.Cap()}
	}
	return state{}
}

// collect answers the spans that Lines yields, with a look at their numbers.
func collect(t *testing.T, text store.Text) []api.Span {
	t.Helper()
	var list []api.Span
	for line, span := range lines.Lines(text) {
		if line != len(list) {
			t.Fatalf("P11.5: the line number %d comes behind %d others", line, len(list))
		}
		list = append(list, span)
	}
	return list
}

// about lists the numbers from 0 to n with some beside them.
func about(n int) []int {
	var list []int
	for i := -2; i <= n+2; i++ {
		list = append(list, i)
	}
	return list
}

// lookAtOffsets holds Of and Column against the plain text.
func lookAtOffsets(t *testing.T, k keeper, p plain, offsets []int) {
	t.Helper()
	for _, at := range offsets {
		got, e := lines.Of(k.text, at)
		if want, wantE := p.of(at); got != want || e != wantE {
			t.Fatalf("P11.1: Of(%d) of %.199q by %s: %d, %v, want %d, %v", at, p.text, k.name, got, e, want, wantE)
		}
		got, e = lines.Column(k.text, at)
		if want, wantE := p.column(at); got != want || e != wantE {
			t.Fatalf("P11.3: Column(%d) of %.199q by %s: %d, %v, want %d, %v", at, p.text, k.name, got, e, want, wantE)
		}
	}
}

// lookAtLines holds Count, Lines, Span and Line against the plain text.
func lookAtLines(t *testing.T, k keeper, p plain, numbers []int) {
	t.Helper()
	if got := lines.Count(k.text); got != len(p.spans) {
		t.Fatalf("P11.1: Count of %.199q by %s: %d, want %d", p.text, k.name, got, len(p.spans))
	}
	if got := collect(t, k.text); !slices.Equal(got, p.spans) {
		t.Fatalf("P11.5: Lines of %.199q by %s: %.199v, want %.199v", p.text, k.name, got, p.spans)
	}
	for _, line := range numbers {
		span, e := lines.Span(k.text, line)
		if want, wantE := p.span(line); span != want || e != wantE {
			t.Fatalf("P11.2: Span(%d) of %.199q by %s: %v, %v, want %v, %v", line, p.text, k.name, span, e, want, wantE)
		}
		text, e := lines.Line(k.text, line)
		if want, wantE := p.line(line); text != want || e != wantE {
			t.Fatalf("P11.2: Line(%d) of %.199q by %s: %.99q, %v, want %.99q, %v", line, p.text, k.name, text, e, want, wantE)
		}
	}
}

// lookAtColumns holds At against the plain text.
func lookAtColumns(t *testing.T, k keeper, p plain, line int, columns []int) {
	t.Helper()
	for _, column := range columns {
		at, e := lines.At(k.text, line, column)
		if want, wantE := p.at(line, column); at != want || e != wantE {
			t.Fatalf("P11.4: At(%d, %d) of %.199q by %s: %d, %v, want %d, %v", line, column, p.text, k.name, at, e, want, wantE)
		}
	}
}

// cellsOf answers how many cells a line has.
func (p plain) cellsOf(line int) int {
	if !p.hasLine(line) {
		return 0
	}
	return p.places[line][len(p.places[line])-1].column
}

// lookAtAll holds every call at every number against the plain text, by every keeper, and asks that nothing changes them.
func lookAtAll(t *testing.T, text string) {
	t.Helper()
	p := cut(text)
	for _, k := range keepers(t, text) {
		before := stateOf(k.text)
		lookAtOffsets(t, k, p, about(len(text)))
		lookAtLines(t, k, p, about(len(p.spans)))
		for _, line := range about(len(p.spans)) {
			lookAtColumns(t, k, p, line, about(p.cellsOf(line)))
		}
		foundAgain(t, k, p)
		if after := stateOf(k.text); after != before {
			t.Fatalf("P11.6: %s was %.299v and is %.299v", k.name, before, after)
		}
	}
}

// foundAgain asks that every boundary of a line is found by its line and column.
func foundAgain(t *testing.T, k keeper, p plain) {
	t.Helper()
	for line, places := range p.places {
		for _, b := range places {
			number, _ := lines.Of(k.text, b.at)
			column, _ := lines.Column(k.text, b.at)
			if at, e := lines.At(k.text, number, column); number != line || at != b.at || e != api.OK {
				t.Fatalf("P11.4: the boundary %d of %.199q by %s has the line %d and the column %d, where %d is found, %v", b.at, p.text, k.name, number, column, at, e)
			}
		}
	}
}

// every calls look with each text of at most most of the pieces.
func every(pieces []string, most int, look func(string)) {
	var grow func(text string, most int)
	grow = func(text string, most int) {
		look(text)
		for _, piece := range pieces {
			if most > 0 {
				grow(text+piece, most-1)
			}
		}
	}
	grow("", most)
}

// TestShortTexts has all texts of few pieces: newlines of both kinds, CR without LF, marks, wide ones, controls, bad bytes.
func TestShortTexts(t *testing.T) {
	look := func(text string) { lookAtAll(t, text) }
	every([]string{"a", "\n", "\r", "\r\n", "\u0301", "\u4e00", "\U0001F600", "\x01", "\u0085", "\xff", "\xe4\xb8"}, 3, look)
	every([]string{"\n", "\r", "\u0301", "\u4e00"}, 4, look)
	every([]string{"a\n", "\r", "\u4e00\u0301", "\x7f\xf0"}, 3, look)
	every([]string{"\n", "\r"}, 7, look)
}

// spans answers the spans that begin and end at the numbers, by turns.
func spans(ends ...int) []api.Span {
	var list []api.Span
	for i := 0; i < len(ends); i += 2 {
		list = append(list, api.Span{From: ends[i], To: ends[i+1]})
	}
	return list
}

// TestShortTextsWrittenDown has the edges with their answers in full.
func TestShortTextsWrittenDown(t *testing.T) {
	for _, x := range []struct {
		text    string
		spans   []api.Span
		columns []int
	}{
		{"", spans(0, 0), []int{0}},
		{"\n", spans(0, 0, 1, 1), []int{0, 0}},
		{"\r\n", spans(0, 0, 2, 2), []int{0, 0, 0}},
		{"\r", spans(0, 1), []int{0, 2}},
		{"\n\r", spans(0, 0, 1, 2), []int{0, 0, 2}},
		{"\r\r\n", spans(0, 1, 3, 3), []int{0, 2, 2, 0}},
		{"a\rb\n", spans(0, 3, 4, 4), []int{0, 1, 3, 4, 0}},
		{"\n\n\r\n\n", spans(0, 0, 1, 1, 2, 2, 4, 4, 5, 5), []int{0, 0, 0, 0, 0, 0}},
		{"\nab", spans(0, 0, 1, 3), []int{0, 0, 1, 2}},
		{"e\u0301\u0301x\r\n", spans(0, 6, 8, 8), []int{0, 0, 0, 0, 0, 1, 2, 2, 0}},
		{"\n\u0301x", spans(0, 0, 1, 4), []int{0, 0, 0, 1, 2}},
		{"\xff\u4e00\x01\u0085", spans(0, 7), []int{0, 1, 1, 1, 3, 5, 5, 6}},
		{"\xe4\xb8\n\x80", spans(0, 2, 3, 4), []int{0, 1, 2, 0, 1}},
	} {
		for _, k := range keepers(t, x.text) {
			if got := collect(t, k.text); !slices.Equal(got, x.spans) || lines.Count(k.text) != len(x.spans) {
				t.Errorf("P11.1, P11.5: the lines of %q by %s: %v, %d, want %v", x.text, k.name, got, lines.Count(k.text), x.spans)
			}
			for at, want := range x.columns {
				if got, e := lines.Column(k.text, at); got != want || e != api.OK {
					t.Errorf("P11.3: Column(%d) of %q by %s: %d, %v, want %d", at, x.text, k.name, got, e, want)
				}
			}
		}
	}
}

// numbers answers numbers that look mixed, the same ones at each run.
func numbers(seed uint64) func(below int) int {
	return func(below int) int {
		seed = seed*6364136223846793005 + 1442695040888963407
		return int(seed>>33) % below
	}
}

// mixed answers a text of n lines or so, most of them of at most most clusters.
func mixed(seed uint64, n, most int) string {
	next := numbers(seed)
	pieces := []string{"a", "b ", "\u4e00", "\u0301", "\u0301\u0301\u0301", "\r", "\t", "\xff", "\xf0\x9f\x98", "\U0001F600", "\u0085\u0301", "word"}
	var out strings.Builder
	for range n {
		for range next(most + 1) {
			out.WriteString(pieces[next(len(pieces))])
		}
		out.WriteString([]string{"\n", "\r\n", "\r\r\n", "\n\n"}[next(4)])
	}
	return out.String()
}

// TestManyLines has texts of many short lines, of some long ones, and of both.
func TestManyLines(t *testing.T) {
	lookAtAll(t, mixed(1, 150, 4))
	lookAtAll(t, mixed(2, 8, 150))
	lookAtAll(t, "last line\n"+mixed(3, 40, 30)+"without a newline")
	lookAtAll(t, strings.Repeat("\n", 300))
	lookAtAll(t, strings.Repeat("\r\n", 200))
	lookAtAll(t, strings.Repeat("\r", 300)+"\n"+strings.Repeat("\r", 300))
	lookAtAll(t, strings.Repeat("\u4e00", 100)+strings.Repeat("\n\u4e00", 100))
}

// TestEachLength has lines of each length about those at which pieces are cut.
func TestEachLength(t *testing.T) {
	for _, fill := range []string{"x", "\u4e00", "e\u0301"} {
		for n := 0; n <= 270; n++ {
			if n > 70 && n%64 > 4 && n%64 < 60 {
				continue
			}
			line := strings.Repeat(fill, n/len(fill)+1)[:n]
			text := "a\n" + line + "\r\n" + line + "\n" + line
			p := cut(text)
			for _, k := range keepers(t, text) {
				lookAtLines(t, k, p, about(len(p.spans)))
				for line, span := range p.spans {
					lookAtOffsets(t, k, p, []int{span.From, span.From + 1, (span.From + span.To) / 2, span.To - 1, span.To, span.To + 1, span.To + 2})
					cells := p.cellsOf(line)
					lookAtColumns(t, k, p, line, []int{0, 1, cells / 2, cells/2 + 1, cells - 1, cells, cells + 1})
				}
			}
		}
	}
}

// TestLongClusters has clusters of many marks: short of half a line, over half of it, all of it, and about the ends of pieces.
func TestLongClusters(t *testing.T) {
	for _, mark := range []string{"\u0301", "\U0001F3FB"} {
		for _, n := range []int{15, 16, 17, 30, 31, 32, 33, 64, 90} {
			marks := strings.Repeat(mark, n)
			few := strings.Repeat("xy", n/2)
			for _, text := range []string{marks, "\r\n" + marks + "\r\n", few + "e" + marks + few + "\n", "\u4e00" + marks + few + few + few, few + few + few + "\xff" + marks, "\n" + few + marks + "\u4e00" + marks + "\x01" + marks} {
				lookAtAll(t, text)
			}
		}
	}
}

// TestWrongNumbers has numbers far out of every range, alone and with right ones.
func TestWrongNumbers(t *testing.T) {
	for _, text := range []string{"", "ab\u0301\r\n\u4e00\n", mixed(5, 30, 20)} {
		p := cut(text)
		for _, k := range keepers(t, text) {
			lookAtOffsets(t, k, p, append([]int{-1, len(text) + 1}, wrongNumbers...))
			lookAtLines(t, k, p, append([]int{-1, len(p.spans)}, wrongNumbers...))
			for _, line := range append([]int{-1, 0, len(p.spans) - 1, len(p.spans)}, wrongNumbers...) {
				lookAtColumns(t, k, p, line, append([]int{-1, 0, 1}, wrongNumbers...))
			}
		}
	}
}

func TestWrongNumbersWrittenDown(t *testing.T) {
	for _, k := range keepers(t, "ab\ncd") {
		for _, at := range append([]int{-1, 6}, wrongNumbers...) {
			if line, e := lines.Of(k.text, at); line != 0 || e != api.ErrRange {
				t.Errorf("P11.1: Of(%d) by %s: %d, %v", at, k.name, line, e)
			}
			if column, e := lines.Column(k.text, at); column != 0 || e != api.ErrRange {
				t.Errorf("P11.3: Column(%d) by %s: %d, %v", at, k.name, column, e)
			}
		}
		for _, line := range append([]int{-1, 2}, wrongNumbers...) {
			span, e := lines.Span(k.text, line)
			text, textE := lines.Line(k.text, line)
			if span != (api.Span{}) || e != api.ErrRange || text != "" || textE != api.ErrRange {
				t.Errorf("P11.2: Span and Line of %d by %s: %v, %v, %q, %v", line, k.name, span, e, text, textE)
			}
			for _, column := range []int{math.MinInt, -1, 0, 1, math.MaxInt} {
				if at, e := lines.At(k.text, line, column); at != 0 || e != api.ErrRange {
					t.Errorf("P11.4: At(%d, %d) by %s: %d, %v", line, column, k.name, at, e)
				}
			}
		}
		for column, want := range map[int]int{math.MinInt: 3, -1: 3, 0: 3, 1: 4, 2: 5, 3: 5, math.MaxInt: 5} {
			if at, e := lines.At(k.text, 1, column); at != want || e != api.OK {
				t.Errorf("P11.4: At(1, %d) by %s: %d, %v, want %d", column, k.name, at, e, want)
			}
		}
	}
}

// nothings answers all that counts as the empty text.
func nothings(t *testing.T) []keeper {
	var noStore *store.Store
	var noBuffer *gap.Buffer
	return append(keepers(t, ""), keeper{"nil", nil}, keeper{"a nil store", noStore}, keeper{"a nil buffer", noBuffer}, keeper{"the zero store", &store.Store{}}, keeper{"the zero buffer", &gap.Buffer{}})
}

// TestNothing has every call of what counts as the empty text.
func TestNothing(t *testing.T) {
	p := cut("")
	for _, k := range nothings(t) {
		lookAtOffsets(t, k, p, append(about(0), wrongNumbers...))
		lookAtLines(t, k, p, append(about(1), wrongNumbers...))
		for _, line := range append(about(1), wrongNumbers...) {
			lookAtColumns(t, k, p, line, append(about(1), wrongNumbers...))
		}
		if lines.Count(k.text) != 1 || lines.Lines(k.text) == nil || !slices.Equal(collect(t, k.text), []api.Span{{}}) {
			t.Errorf("P11.1, P11.5: %s is not the empty text", k.name)
		}
		if at, e := lines.At(k.text, 0, 7); at != 0 || e != api.OK {
			t.Errorf("P11.4: At(0, 7) of %s: %d, %v", k.name, at, e)
		}
		if _, e := lines.At(k.text, 1, 0); e != api.ErrRange {
			t.Errorf("P11.4: At(1, 0) of %s: %v", k.name, e)
		}
	}
}

// TestLinesAgain ranges over one answer of Lines again, broken off at each line, and nested.
func TestLinesAgain(t *testing.T) {
	const text = "a\r\n\nbc\n\u4e00"
	want := spans(0, 1, 3, 3, 4, 6, 7, 10)
	for _, k := range keepers(t, text) {
		all := lines.Lines(k.text)
		for most := 1; most <= 4; most++ {
			var got []api.Span
			for line, span := range all {
				if got = append(got, span); line != len(got)-1 {
					t.Errorf("P11.5: the number %d by %s", line, k.name)
				}
				if len(got) == most {
					break
				}
			}
			if !slices.Equal(got, want[:most]) {
				t.Errorf("P11.5: broken off behind %d lines by %s: %v", most, k.name, got)
			}
		}
		pairs := 0
		for i, outer := range all {
			for j, inner := range all {
				if outer != want[i] || inner != want[j] {
					t.Errorf("P11.5: nested, by %s: %v and %v", k.name, outer, inner)
				}
				pairs++
			}
		}
		if pairs != 16 {
			t.Errorf("P11.5: nested, by %s: %d pairs", k.name, pairs)
		}
	}
}

// TestLinesOfAnEditedText edits a text ahead of a range, within it and behind it.
func TestLinesOfAnEditedText(t *testing.T) {
	for _, text := range []string{"", "a\nb\nc", mixed(6, 30, 20)} {
		for kind := api.KindGap; kind <= api.KindHybrid; kind++ {
			s, _ := store.New(kind, 4, 8, 1<<20, text)
			b, _ := gap.New(text, 1<<20)
			for _, k := range []store.Text{s, b} {
				all := lines.Lines(k)
				k.Replace(0, 0, "new\r\n")
				edited := "new\r\n" + text
				for round := range 3 {
					want, got := cut(edited).spans, []api.Span(nil)
					for line, span := range all {
						got = append(got, span)
						edited = editWithin(k, edited, line, round)
					}
					if !slices.Equal(got, want) {
						t.Errorf("P11.5: round %d by %T of kind %d: %.199v, want %.199v", round, k, kind, got, want)
					}
				}
				if got := collect(t, k); !slices.Equal(got, cut(edited).spans) {
					t.Errorf("P11.5: behind the rounds by %T of kind %d: %.199v", k, kind, got)
				}
			}
		}
	}
}

// editWithin edits t, whose text is given, as the body of a range may, and answers the new text.
func editWithin(t store.Text, text string, line, round int) string {
	if s, ok := t.(*store.Store); ok {
		s.Switch(api.Kind(1 + line%2))
	}
	switch {
	case line == 3 && round == 1:
		t.Replace(0, t.Len(), "")
		return ""
	case line%2 == 0:
		t.Replace(0, 0, "\n")
		return "\n" + text
	}
	t.Replace(t.Len(), 0, "x\n")
	return text + "x\n"
}

// TestLinesLetsPanicsThrough has a range whose body panics: that is the caller's own.
func TestLinesLetsPanicsThrough(t *testing.T) {
	s, _ := store.New(api.KindRope, 0, 1, 9, "a\nb")
	defer func() {
		if got := recover(); got != "of the body" {
			t.Error("P11.5: a panic of the body became", got)
		}
	}()
	for range lines.Lines(s) {
		panic("of the body")
	}
	t.Error("P11.5: a panic of the body is gone")
}

// watched is a text that counts the bytes that are read of it, and how often it is asked to change.
type watched struct {
	store.Text
	read, asked, edited int
}

func (w *watched) Slice(from, to int) (string, api.Errno) {
	s, e := w.Text.Slice(from, to)
	w.read += len(s)
	w.asked++
	return s, e
}

func (w *watched) Measure(from, to int) (api.Summary, api.Errno) {
	w.asked++
	return w.Text.Measure(from, to)
}

func (w *watched) Replace(at, cut int, put string) (string, api.Errno) {
	w.edited++
	return w.Text.Replace(at, cut, put)
}

// TestNothingIsEdited asks that no call tries to change a text, not even to change it back.
func TestNothingIsEdited(t *testing.T) {
	text := mixed(7, 40, 40)
	p := cut(text)
	for _, k := range keepers(t, text) {
		w := &watched{Text: k.text}
		k.text = w
		lookAtOffsets(t, k, p, about(len(text)))
		lookAtLines(t, k, p, about(len(p.spans)))
		lookAtColumns(t, k, p, 3, about(p.cellsOf(3)))
		if w.edited != 0 {
			t.Errorf("P11.6: %s was asked %d times to change", k.name, w.edited)
		}
	}
}

// TestPieces has a long text of short lines and one of a few long ones, and counts what is read of them: few pieces, and not the whole.
func TestPieces(t *testing.T) {
	for _, line := range []string{"e\u0301 short one\r\n", strings.Repeat("\u4e00 long ", 20000) + "\n"} {
		count := 1 << 20 / len(line)
		s, _ := store.New(api.KindRope, 0, 1, 1<<30, strings.Repeat(line, count))
		for name, call := range map[string]func(store.Text){
			"Count":          func(w store.Text) { lines.Count(w) },
			"Of":             func(w store.Text) { lines.Of(w, w.Len()/2) },
			"Span":           func(w store.Text) { lines.Span(w, count/2) },
			"Span of no one": func(w store.Text) { lines.Span(w, count+1) },
			"Column":         func(w store.Text) { lines.Column(w, w.Len()/2) },
			"At":             func(w store.Text) { lines.At(w, count/2, len(line)/3) },
			"At the end":     func(w store.Text) { lines.At(w, count/2, math.MaxInt) },
		} {
			w := &watched{Text: s}
			call(w)
			if w.read > 4096 || w.asked > 200 {
				t.Errorf("layer 11: %s reads %d bytes of %d, and asks %d times", name, w.read, s.Len(), w.asked)
			}
		}
	}
}

// TestTime goes through a long text by all calls: the whole text measured anew at each line would take many minutes.
func TestTime(t *testing.T) {
	begun := time.Now()
	rope, _ := store.New(api.KindRope, 0, 1, 1<<30, strings.Repeat("e\u0301 line\r\n", 1<<18))
	buffer, _ := gap.New(strings.Repeat("e\u0301 line\r\n", 1<<16), 1<<30)
	for _, k := range []store.Text{rope, buffer} {
		if n := len(collect(t, k)); n != k.Len()/10+1 {
			t.Fatal("P11.5: lines:", n)
		}
		for at := 0; at < k.Len(); at += 99 {
			if column, e := lines.Column(k, at); e != api.OK || column > 6 {
				t.Fatal("P11.3: Column:", column, e)
			}
		}
	}
	for line := 0; line < 1<<18; line += 99 {
		at, e := lines.At(rope, line, 1)
		if number, _ := lines.Of(rope, at); at != 10*line+3 || e != api.OK || number != line {
			t.Fatal("P11.4: At:", line, at, e, number)
		}
	}
	if d := time.Since(begun); d > time.Minute {
		t.Error("layer 11: the calls take", d)
	}
}

// strange is a text of another's making: what is nil of it panics.
type strange struct {
	n       int
	slice   func(from, to int) (string, api.Errno)
	measure func(from, to int) (api.Summary, api.Errno)
}

func (s *strange) Len() int                                            { return s.n }
func (s *strange) Slice(from, to int) (string, api.Errno)              { return s.slice(from, to) }
func (s *strange) Measure(from, to int) (api.Summary, api.Errno)       { return s.measure(from, to) }
func (s *strange) Replace(at, cut int, put string) (string, api.Errno) { panic("Replace") }

// strangers answers texts that panic, refuse, or tell what can't be.
func strangers() []store.Text {
	slices := []func(int, int) (string, api.Errno){
		nil,
		func(int, int) (string, api.Errno) { return "", api.ErrRange },
		func(int, int) (string, api.Errno) { return "\u0301", api.OK },
		func(from, to int) (string, api.Errno) {
			return strings.Repeat("\r\n\u0301", 99)[:min(99, max(0, to-from))], api.OK
		},
	}
	measures := []func(int, int) (api.Summary, api.Errno){nil, func(int, int) (api.Summary, api.Errno) { return api.Summary{}, api.ErrRange }}
	for _, n := range []int{math.MinInt, -1, 0, 1, math.MaxInt} {
		measures = append(measures, func(int, int) (api.Summary, api.Errno) { return api.Summary{Newlines: n, Cells: n}, api.OK })
	}
	var list []store.Text
	for _, n := range []int{math.MinInt, -1, 0, 1, 5, 65, 300} {
		for _, slice := range slices {
			for _, measure := range measures {
				list = append(list, &strange{n, slice, measure})
			}
		}
	}
	for _, n := range []int{1 << 30, 1<<31 - 1, math.MaxInt - 1, math.MaxInt} {
		for _, slice := range slices[:2] {
			list = append(list, &strange{n, slice, measures[1]})
		}
	}
	var none *strange
	return append(list, none)
}

// TestStrangers asks of texts of another's making no more than that every call ends, and that one without a length is empty.
func TestStrangers(t *testing.T) {
	for _, s := range strangers() {
		lines.Count(s)
		for _, n := range append([]int{-1, 0, 1, 4, 64, 200, 299}, wrongNumbers...) {
			lines.Of(s, n)
			lines.Span(s, n)
			lines.Line(s, n)
			lines.Column(s, n)
			lines.At(s, n, n)
			lines.At(s, 0, n)
		}
		for range lines.Lines(s) {
		}
	}
	var none *strange
	lookAtLines(t, keeper{"a stranger that is nil", none}, cut(""), []int{-1, 0, 1})
}

// TestAnswersStay keeps lines while their text is edited.
func TestAnswersStay(t *testing.T) {
	text := mixed(8, 20, 60)
	for _, k := range keepers(t, text) {
		p := cut(text)
		var kept []string
		for line := range p.spans {
			s, _ := lines.Line(k.text, line)
			kept = append(kept, s)
		}
		k.text.Replace(0, len(text), strings.Repeat("#", len(text)))
		for line, s := range kept {
			if want, _ := p.line(line); s != want {
				t.Errorf("R3: line %d by %s became %.99q", line, k.name, s)
			}
		}
	}
}
