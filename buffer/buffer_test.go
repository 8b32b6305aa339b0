package buffer_test

import (
	"fmt"
	"math"
	"slices"
	"strings"
	"testing"

	"bodkin/api"
	"bodkin/buffer"
	"bodkin/store"
)

// numbers answers numbers that look mixed, the same ones at each run.
func numbers(seed uint64) func(below int) int {
	return func(below int) int {
		seed = seed*6364136223846793005 + 1442695040888963407
		return int(seed>>33) % below
	}
}

// call is a call of a buffer, with what it is handed; what it doesn't take is zero.
type call struct {
	name   string
	edits  []api.Edit
	number int
	run    bool
	mark   byte
	text   string
	kind   api.Kind
}

func (c call) String() string {
	switch c.name {
	case "Do":
		edits := ""
		for _, e := range c.edits {
			edits += fmt.Sprintf("{%d, %d, %.40q}, ", e.At, e.Cut, e.Put)
		}
		return fmt.Sprintf("Do(%s%d, %v)", edits, c.number, c.run)
	case "Go":
		return fmt.Sprintf("Go(%d)", c.number)
	case "SetMark":
		return fmt.Sprintf("SetMark(%q, %d)", c.mark, c.number)
	case "Reset":
		return fmt.Sprintf("Reset(%.99q)", c.text)
	case "Switch":
		return fmt.Sprintf("Switch(%d)", c.kind)
	}
	return c.name + "()"
}

// promise tells which promise a call is about.
func promise(name string) string {
	switch name {
	case "New":
		return "P15.1"
	case "Go":
		return "P15.3"
	case "SetMark":
		return "P15.4"
	case "Do":
		return "P15.5"
	case "Undo", "Redo":
		return "P15.6"
	case "Rest", "Reset", "Switch":
		return "P15.7"
	case "zero", "nil":
		return "P15.11"
	}
	return "P15.2"
}

func do(cursor int, run bool, edits ...api.Edit) call {
	return call{name: "Do", edits: edits, number: cursor, run: run}
}
func edit(at, cut int, put string) api.Edit { return api.Edit{At: at, Cut: cut, Put: put} }
func goTo(at int) call                      { return call{name: "Go", number: at} }
func setMark(name byte, at int) call        { return call{name: "SetMark", mark: name, number: at} }
func reset(text string) call                { return call{name: "Reset", text: text} }
func switchTo(to api.Kind) call             { return call{name: "Switch", kind: to} }

var (
	undo = call{name: "Undo"}
	redo = call{name: "Redo"}
	rest = call{name: "Rest"}
)

// pair is a buffer, the plain one that is kept beside it, and the store that was there at first.
type pair struct {
	b     *buffer.Buffer
	p     *plain
	store *store.Store
	// done is what was called, to be told where something is wrong.
	done []call
}

func newPair(t *testing.T, c api.Config) *pair {
	t.Helper()
	b := buffer.New(c)
	if b == nil || b.Store() == nil {
		t.Fatalf("P15.1: New(%+v): nil, or without a store", c)
	}
	return pairOf(t, "New", b, newPlain(c))
}

func pairOf(t *testing.T, name string, b *buffer.Buffer, p *plain) *pair {
	t.Helper()
	x := &pair{b: b, p: p, store: b.Store()}
	x.look(t, name)
	return x
}

// onBuffer carries the call out by the package.
func onBuffer(b *buffer.Buffer, c call) api.Errno {
	switch c.name {
	case "Do":
		return b.Do(c.edits, c.number, c.run)
	case "Go":
		return b.Go(c.number)
	case "SetMark":
		return b.SetMark(c.mark, c.number)
	case "Undo":
		return b.Undo()
	case "Redo":
		return b.Redo()
	case "Reset":
		return b.Reset(c.text)
	case "Switch":
		return b.Switch(c.kind)
	case "Rest":
		b.Rest()
	}
	return api.OK
}

// onPlain carries the call out by the chapter's words.
func onPlain(p *plain, c call) api.Errno {
	switch c.name {
	case "Do":
		return p.do(c.edits, c.number, c.run)
	case "Go":
		return p.goTo(c.number)
	case "SetMark":
		return p.setMark(c.mark, c.number)
	case "Undo":
		return p.undo()
	case "Redo":
		return p.redo()
	case "Reset":
		return p.reset(c.text)
	case "Switch":
		return p.switchTo(c.kind)
	case "Rest":
		p.run = 0
	}
	return api.OK
}

// told is what a buffer tells of itself, but for the marks, in one that can be compared.
type told struct {
	text                            string
	length, cursor, undo, redo, run int
	counts                          api.Counts
	backend                         api.Kind
}

func (a told) String() string {
	return fmt.Sprintf("%.200q (%d), cursor %d, groups %d and %d, run %d, counts %v, backend %d", a.text, a.length, a.cursor, a.undo, a.redo, a.run, a.counts, a.backend)
}

func tell(b *buffer.Buffer) told {
	undo, redo := b.Groups()
	return told{b.Text(), b.Len(), b.Cursor(), undo, redo, b.Run(), b.Counts(), b.Backend()}
}

func (p *plain) tell() told {
	return told{p.now.text, len(p.now.text), p.now.cursor, len(p.undos), len(p.redos), p.run, p.counts, p.backend}
}

// look holds all that P15.2 lists against the plain buffer.
func (x *pair) look(t *testing.T, name string) {
	t.Helper()
	if got, want := tell(x.b), x.p.tell(); got != want {
		t.Fatalf("%s, P15.10: behind %v: %v, want %v", promise(name), x.done, got, want)
	}
	if got, want := x.b.Marks(), x.p.now.list(); !slices.Equal(got, want) {
		t.Fatalf("%s: behind %v: marks %v, want %v", promise(name), x.done, got, want)
	}
	for i := range len(names + "`{A\x00") {
		m := (names + "`{A\x00")[i]
		at, e := x.b.Mark(m)
		if wantAt, wantE := x.p.mark(m); at != wantAt || e != wantE {
			t.Fatalf("P15.2: behind %v: Mark(%q): %d, %v, want %d, %v", x.done, m, at, e, wantAt, wantE)
		}
	}
	n := len(x.p.now.text)
	for _, span := range [][2]int{{0, n}, {0, n / 2}, {n / 2, n}, {n, n}, {0, n + 1}, {1, 0}, {-1, 0}} {
		got, e := x.b.Slice(span[0], span[1])
		if want, wantE := x.p.slice(span[0], span[1]); got != want || e != wantE {
			t.Fatalf("P15.2: behind %v: Slice(%d, %d): %.99q, %v, want %.99q, %v", x.done, span[0], span[1], got, e, want, wantE)
		}
	}
	s := x.b.Store()
	if s != x.store || s.Text() != x.p.now.text || s.Limit() != x.p.limit || s.Counts() != x.p.counts {
		t.Fatalf("P15.2: behind %v: the store is another one, or says %.99q, limit %d, %v", x.done, s.Text(), s.Limit(), s.Counts())
	}
}

// do carries calls out on both, and holds what they answer and become against each other.
func (x *pair) do(t *testing.T, calls ...call) {
	t.Helper()
	for _, c := range calls {
		x.done = append(x.done, c)
		if got, want := onBuffer(x.b, c), onPlain(x.p, c); got != want {
			t.Fatalf("%s: behind %v: %v, want %v", promise(c.name), x.done, got, want)
		}
		x.look(t, c.name)
	}
}

// throughAll undoes all groups and does all again, so that what is kept in each is seen.
func (x *pair) throughAll(t *testing.T) {
	t.Helper()
	for range len(x.p.undos) + 1 {
		x.do(t, undo)
	}
	for range len(x.p.redos) + 1 {
		x.do(t, redo)
	}
}

// everyCall lists the calls in their ways, for texts of few bytes and limits of at most 8; each Do puts the nth letter.
func everyCall(n int) []call {
	letter := string(rune('p' + n))
	return []call{
		do(-1, true, edit(0, 0, letter)), do(1, true, edit(0, 0, letter)), do(-1, false, edit(1, 1, letter)),
		do(0, false, edit(0, 1, "")), do(-1, true, edit(1, 0, "\u0301")), do(-1, false, edit(0, 0, "\r"), edit(1, 0, "\n")),
		do(1, true), do(-1, false, edit(0, 1, "a")), do(2, true, edit(0, 0, letter), edit(0, 1, ""), edit(0, 0, "")),
		do(0, true, edit(0, 0, letter), edit(7, 0, "")), do(0, false, edit(0, 0, "\r"), edit(0, 0, "12345678")), do(9, true, edit(0, 0, letter)), do(-2, false),
		goTo(0), goTo(2), goTo(9), setMark('a', 1), setMark('@', 0), setMark('b', 9), setMark('A', 0),
		undo, redo, rest, reset(""), reset("a\u0301b"), reset("123456789"),
		switchTo(api.KindGap), switchTo(api.KindRope), switchTo(api.KindHybrid),
	}
}

// beginnings lists what may have been done ahead of a run of calls.
func beginnings() map[string][]call {
	typed := []call{do(1, true, edit(0, 0, "a")), do(2, true, edit(1, 0, "b"))}
	with := func(ahead []call, c ...call) []call { return append(slices.Clone(ahead), c...) }
	return map[string][]call{
		"nothing":                nil,
		"a text without groups":  {reset("a\u0301bc"), goTo(0)},
		"a run":                  typed,
		"a run behind a mark":    with([]call{reset("abc"), setMark('a', 2), setMark('@', 3)}, typed...),
		"groups, one taken back": with(typed, rest, do(-1, false, edit(0, 1, "xy")), do(0, false, edit(1, 1, "")), undo),
		"groups, all taken back": with(typed, setMark('z', 1), do(-1, false, edit(0, 1, "xy")), undo, undo),
	}
}

// configs lists configs of all kinds of stores, with low limits and bounds.
func configs() []api.Config {
	return []api.Config{
		{Text: 8, Undo: 2, Store: api.KindGap},
		{Text: 8, Undo: 1, Store: api.KindRope},
		{Text: 8, Undo: 3, Store: api.KindHybrid, Low: 1, High: 3},
		{Text: 4, Undo: 9, Store: api.KindHybrid, Low: 0, High: 0},
		{Text: 5, Undo: 0, Store: 7, Low: 2, High: 4},
	}
}

// everyRun has every run of so many calls.
func everyRun(t *testing.T, length int, begin func() *pair) {
	many := len(everyCall(0))
	runs := 1
	for range length {
		runs *= many
	}
	for run := range runs {
		x := begin()
		for n := range length {
			x.do(t, everyCall(n)[run%many])
			run /= many
		}
		x.throughAll(t)
	}
}

// TestEveryTwo has every two calls behind every beginning, over every config.
func TestEveryTwo(t *testing.T) {
	for _, begun := range beginnings() {
		for _, c := range configs() {
			everyRun(t, 2, func() *pair {
				x := newPair(t, c)
				x.do(t, begun...)
				return x
			})
		}
	}
}

// TestEveryThree has every three calls from the beginning of a run on, over a hybrid that moves to and fro.
func TestEveryThree(t *testing.T) {
	everyRun(t, 3, func() *pair {
		x := newPair(t, api.Config{Text: 7, Undo: 2, Low: 1, High: 3})
		x.do(t, do(1, true, edit(0, 0, "a")))
		return x
	})
}

// TestZeroAndNil has every three calls on the zero Buffer and on nil, and every two on a buffer of the zero config.
func TestZeroAndNil(t *testing.T) {
	everyRun(t, 2, func() *pair { return newPair(t, api.Config{}) })
	everyRun(t, 3, func() *pair { return pairOf(t, "zero", &buffer.Buffer{}, newPlain(api.Config{})) })
	everyRun(t, 3, func() *pair { return pairOf(t, "nil", nil, noPlain()) })
}

// pieces are what mixed texts are made of: clusters of all classes, whole and in parts.
var pieces = []string{"a", "b", "C ", "\u0301", "\u0301", "\u4e00", "\r", "\n", "\r\n", "\xff", "\xcc", "\x81", "\xe4\xb8", "\x80", "\x07", "", "a longer piece of text", strings.Repeat("e\u0301", 20)}

// someText answers up to four pieces.
func someText(next func(int) int) string {
	text := ""
	for range next(4) {
		text += pieces[next(len(pieces))]
	}
	return text
}

// someEdits answers edits, most of which can be done to the text one behind the other.
func someEdits(next func(int) int, text string) []api.Edit {
	var edits []api.Edit
	for range []int{0, 1, 1, 1, 1, 2, 3, 5}[next(8)] {
		at := next(len(text) + 1)
		cut := []int{0, 0, 0, 1, next(len(text) - at + 1), min(next(4), len(text)-at)}[next(6)]
		e := edit(at, min(cut, len(text)-at), someText(next))
		switch next(12) {
		case 0:
			e.Put = text[e.At : e.At+e.Cut]
		case 1:
			e.Put = ""
		}
		text = text[:e.At] + e.Put + text[e.At+e.Cut:]
		if next(60) == 0 {
			e.At += next(9) - 4
		}
		if next(60) == 0 {
			e.Cut += next(9) - 4
		}
		edits = append(edits, e)
	}
	return edits
}

// someCall answers a call for a buffer with the text, more often a Do than another.
func someCall(next func(int) int, text string) call {
	at := next(len(text)+3) - 1
	switch next(20) {
	case 0, 1:
		return goTo(at)
	case 2, 3:
		return setMark("@abcz"[next(5)], at)
	case 4, 5:
		return undo
	case 6, 7:
		return redo
	case 8:
		return switchTo(api.Kind(next(4)))
	case 9:
		return []call{rest, rest, reset(someText(next)), setMark('A', at)}[next(4)]
	}
	return do([]int{-1, -1, -1, at}[next(4)], next(3) > 0, someEdits(next, text)...)
}

// TestManyCalls has long runs of mixed calls over stores of all kinds and thresholds.
func TestManyCalls(t *testing.T) {
	for seed := range 240 {
		next := numbers(uint64(seed))
		x := newPair(t, api.Config{
			Text: []int{0, 5, 40, 300, 1 << 20}[next(5)], Undo: []int{0, 1, 2, 5, 30, 1000}[next(6)],
			Store: api.Kind(next(5)), Low: next(40) - 3, High: next(90) - 3,
		})
		for range 150 {
			x.do(t, someCall(next, x.p.now.text))
			x.done = x.done[max(len(x.done)-9, 0):]
		}
		x.throughAll(t)
	}
}

// TestTyping types long runs over every kind of store, with other calls between now and then.
func TestTyping(t *testing.T) {
	for kind := range api.Kind(4) {
		for _, bound := range []int{0, 1, 3, 1000} {
			next := numbers(uint64(bound) + uint64(kind))
			x := newPair(t, api.Config{Text: 4000, Undo: bound, Store: kind, Low: 60, High: 90})
			for range 600 {
				at := x.p.now.cursor
				put := pieces[next(8)]
				x.do(t, do(at+len(put), true, edit(at, 0, put)))
				if next(40) == 0 {
					x.do(t, someCall(next, x.p.now.text))
				}
				x.done = x.done[max(len(x.done)-9, 0):]
			}
			x.throughAll(t)
		}
	}
}

// wrongNumbers are far out of every range; sums of two of them wrap round.
var wrongNumbers = []int{math.MinInt, math.MinInt + 1, -1 << 32, -3, -2, 1 << 32, math.MaxInt - 1, math.MaxInt}

// TestWrongNumbers hands numbers out of their ranges to every call that takes one, in a run with a mark and a group to do again at other times.
func TestWrongNumbers(t *testing.T) {
	for _, begun := range beginnings() {
		x := newPair(t, api.Config{Text: 8, Undo: 4, Low: 1, High: 3})
		x.do(t, begun...)
		for _, n := range wrongNumbers {
			x.do(t, goTo(n), setMark('a', n), setMark('A', n), switchTo(api.Kind(n)))
			x.do(t, do(n, true), do(n, false, edit(0, 0, "x")))
			for _, m := range append(wrongNumbers, 0, 1, 2, 3) {
				x.do(t, do(-1, true, edit(n, m, "x")), do(-1, true, edit(m, n, "")), do(-1, true, edit(0, 0, "x"), edit(m, n, "")))
			}
		}
	}
}
