package hist_test

import (
	"math"
	"slices"
	"strconv"
	"strings"
	"testing"

	"bodkin/api"
	"bodkin/hist"
)

// numbers answers numbers that look mixed, the same ones at each run.
func numbers(seed uint64) func(below int) int {
	return func(below int) int {
		seed = seed*6364136223846793005 + 1442695040888963407
		return int(seed>>33) % below
	}
}

// call is a call of a history, with the number that it is handed, if it takes one.
type call struct {
	name, text string
	number     int
}

// quoted tells a text so that any bytes can be read, and long ones don't fill the page.
func quoted(text string) string {
	return strconv.Quote(text[:min(len(text), 40)])
}

func (c call) String() string {
	switch c.name {
	case "Home":
		return "Home()"
	case "Entry":
		return "Entry(" + strconv.Itoa(c.number) + ")"
	case "Go":
		return "Go(" + strconv.Itoa(c.number) + ", " + quoted(c.text) + ")"
	case "Find":
		return "Find(" + quoted(c.text) + ", " + strconv.Itoa(c.number) + ")"
	}
	return c.name + "(" + quoted(c.text) + ")"
}

// answer is what a call answers; what it doesn't tell is zero.
type answer struct {
	text       string
	number, at int
	ok         bool
	e          api.Errno
}

func (a answer) String() string {
	return quoted(a.text) + " " + strconv.Itoa(a.number) + " " + strconv.Itoa(a.at) + " " + strconv.FormatBool(a.ok) + " " + strconv.Itoa(int(a.e))
}

// promise tells which promise a call is about.
func promise(name string) string {
	switch name {
	case "Add":
		return "P14.2"
	case "Go":
		return "P14.3"
	case "Back", "Forward":
		return "P14.4"
	case "Find":
		return "P14.5"
	case "Home":
		return "P14.6"
	case "zero", "nil":
		return "P14.7"
	}
	return "P14.1"
}

// pair is a history, and the plain one that is kept beside it.
type pair struct {
	h *hist.History
	p *plain
	// done is what was called, to be told where something is wrong.
	done []call
}

func newPair(t *testing.T, bound int) *pair {
	t.Helper()
	x := &pair{h: hist.New(bound), p: newPlain(bound)}
	if x.h == nil {
		t.Fatalf("P14.1: New(%d): nil", bound)
	}
	x.look(t, "New")
	return x
}

// onHistory carries the call out by the package.
func (x *pair) onHistory(c call) (a answer) {
	switch c.name {
	case "Add":
		a.ok = x.h.Add(c.text)
	case "Back":
		a.text, a.e = x.h.Back(c.text)
	case "Forward":
		a.text, a.e = x.h.Forward(c.text)
	case "Go":
		a.text, a.e = x.h.Go(c.number, c.text)
	case "Find":
		a.number, a.at, a.e = x.h.Find(c.text, c.number)
	case "Entry":
		a.text, a.e = x.h.Entry(c.number)
	case "Home":
		x.h.Home()
	}
	return a
}

// onPlain carries the call out by the chapter's words.
func (x *pair) onPlain(c call) (a answer) {
	switch c.name {
	case "Add":
		a.ok = x.p.add(c.text)
	case "Back":
		a.text, a.e = x.p.back(c.text)
	case "Forward":
		a.text, a.e = x.p.forward(c.text)
	case "Go":
		a.text, a.e = x.p.goTo(c.number, c.text)
	case "Find":
		a.number, a.at, a.e = x.p.find(c.text, c.number)
	case "Entry":
		a.text, a.e = x.p.entry(c.number)
	case "Home":
		x.p.home()
	}
	return a
}

// look holds all that the history tells without being changed against the plain one.
func (x *pair) look(t *testing.T, name string) {
	t.Helper()
	h, p := x.h, x.p
	if h.Place() != p.place() || h.Drafts() != len(p.drafts) {
		t.Fatalf("%s: behind %v: place %d, %d drafts, want %d, %d", promise(name), x.done, h.Place(), h.Drafts(), p.place(), len(p.drafts))
	}
	if h.Bound() != p.bound || h.Len() != len(p.entries) || !slices.Equal(h.Entries(), p.all()) {
		t.Fatalf("%s: behind %v: bound %d, %d entries, %.99q, want %d, %d, %.99q", promise(name), x.done, h.Bound(), h.Len(), h.Entries(), p.bound, len(p.entries), p.all())
	}
}

// do carries calls out on both, and holds what they answer and become against each other.
func (x *pair) do(t *testing.T, calls ...call) {
	t.Helper()
	for _, c := range calls {
		x.done = append(x.done, c)
		if got, want := x.onHistory(c), x.onPlain(c); got != want {
			t.Fatalf("%s: behind %v: %v, want %v", promise(c.name), x.done, got, want)
		}
		x.look(t, c.name)
	}
}

// walk goes to every place, so that the text at each of them is seen. (The draft of the place at which it begins is written over by any call that would show it.)
func (x *pair) walk(t *testing.T) {
	t.Helper()
	for place := len(x.p.entries); place >= 0; place-- {
		x.do(t, goTo(place, "left for "+strconv.Itoa(place)))
	}
}

func add(line string) call                { return call{name: "Add", text: line} }
func back(now string) call                { return call{name: "Back", text: now} }
func forward(now string) call             { return call{name: "Forward", text: now} }
func goTo(place int, now string) call     { return call{name: "Go", text: now, number: place} }
func find(part string, below int) call    { return call{name: "Find", text: part, number: below} }
func entry(i int) call                    { return call{name: "Entry", number: i} }
func with(ahead []call, c ...call) []call { return append(slices.Clone(ahead), c...) }

var home = call{name: "Home"}

// everyCall lists the calls in their ways, those that hand a text over with one of their own.
func everyCall(n int) []call {
	now := "now" + strconv.Itoa(n)
	return []call{
		add(""), add("a"), add("b"), add(now), home,
		back(now), back(""), back("a"), forward(now), forward(""),
		goTo(0, now), goTo(1, now), goTo(2, ""), goTo(3, now), goTo(-1, now), goTo(9, now),
		find("a", 2), find("now", 9), entry(2),
	}
}

// beginnings lists what may have been done ahead of a run: no entry, one and several; each place; drafts at some places, at all, and at none.
func beginnings() map[string][]call {
	three := []call{add("a"), add("b"), add("c")}
	return map[string][]call{
		"nothing":                    nil,
		"a draft and no entry":       {goTo(0, "x")},
		"one":                        {add("a")},
		"one, at it":                 {add("a"), back("x")},
		"three":                      three,
		"three, at the newest":       with(three, back("x")),
		"three, in the midst":        with(three, back("x"), back("C")),
		"three, at the oldest":       with(three, goTo(0, "")),
		"three, drafts everywhere":   with(three, back("x"), back("C"), back("B"), forward("A"), forward("B2")),
		"three, walked and home":     with(three, back("x"), back("C"), home),
		"one twice, another between": {add("a"), add("b"), add("a")},
	}
}

// TestEveryRun has every run of three calls behind every beginning, at every low bound, and looks at the texts at all places then.
func TestEveryRun(t *testing.T) {
	many := len(everyCall(0))
	for _, begun := range beginnings() {
		for _, bound := range []int{0, 1, 2, 3, 4} {
			for run := range many * many * many {
				x := newPair(t, bound)
				x.do(t, begun...)
				for n := range 3 {
					x.do(t, everyCall(n)[run%many])
					run /= many
				}
				x.walk(t)
			}
		}
	}
}

// TestManyCalls has long runs of mixed calls.
func TestManyCalls(t *testing.T) {
	texts := []string{"", "a", "aa", "bc", "abab", "\xff\x00", "\u4e00\r\n", "a\xcc\x81", "\x80", strings.Repeat("long ", 40)}
	names := []string{"Add", "Add", "Add", "Back", "Back", "Back", "Back", "Forward", "Forward", "Go", "Go", "Find", "Find", "Entry", "Home"}
	for seed, bound := range []int{math.MinInt, -1, 0, 1, 2, 3, 7, 50, 1000, 2000, math.MaxInt} {
		next := numbers(uint64(seed))
		x := newPair(t, bound)
		for n := range 4000 {
			text := texts[next(len(texts))]
			if next(3) == 0 {
				text += strconv.Itoa(next(40))
			}
			name := names[next(len(names))]
			// Homes and lines would end each walk early.
			if n%400 > 200 && (name == "Home" || name == "Add") {
				name = "Back"
			}
			x.do(t, call{name: name, text: text, number: next(len(x.p.entries)+5) - 2})
			x.done = x.done[max(len(x.done)-20, 0):]
		}
		x.walk(t)
	}
}

// TestMostEntries fills histories up to their bounds and beyond, and walks from end to end and back.
func TestMostEntries(t *testing.T) {
	for _, bound := range []int{1, 2, 999, 1000, 1001} {
		x := newPair(t, bound)
		for n := range bound + 5 {
			x.h.Add(strconv.Itoa(n))
			x.p.add(strconv.Itoa(n))
		}
		x.look(t, "Add")
		many := len(x.p.entries)
		for n := range many + 1 {
			x.do(t, back("draft "+strconv.Itoa(n)))
			x.done = nil
		}
		if x.h.Place() != 0 || x.h.Drafts() != many {
			t.Fatalf("P14.4: at the oldest of %d: place %d, %d drafts", many, x.h.Place(), x.h.Drafts())
		}
		for n := range many + 1 {
			x.do(t, forward("again "+strconv.Itoa(n)))
			x.done = nil
		}
		if x.h.Place() != many || x.h.Drafts() != many+1 {
			t.Fatalf("P14.4: at the bottom of %d: place %d, %d drafts", many, x.h.Place(), x.h.Drafts())
		}
		x.do(t, add("one more"))
	}
}

func TestBounds(t *testing.T) {
	for _, c := range []struct{ of, want int }{
		{math.MinInt, 0}, {-1 << 32, 0}, {-2, 0}, {-1, 0}, {0, 0}, {1, 1}, {2, 2}, {17, 17}, {999, 999},
		{1000, 1000}, {1001, 1000}, {5000, 1000}, {1 << 32, 1000}, {math.MaxInt, 1000},
	} {
		h := hist.New(c.of)
		if h == nil || h.Bound() != c.want || h.Len() != 0 || len(h.Entries()) != 0 || h.Place() != 0 || h.Drafts() != 0 {
			t.Fatalf("P14.1: New(%d): bound %d, %d entries, place %d, %d drafts", c.of, h.Bound(), h.Len(), h.Place(), h.Drafts())
		}
		for n := range c.want + 3 {
			if ok := h.Add(strconv.Itoa(n)); ok != (c.want > 0) || h.Len() != min(n+1, c.want) || h.Place() != h.Len() {
				t.Fatalf("P14.2: line %d, bound %d: %v, %d entries, place %d", n, c.want, ok, h.Len(), h.Place())
			}
		}
		// The oldest three are gone, and no others.
		all := h.Entries()
		for n := range c.want {
			want := strconv.Itoa(n + 3)
			if got, e := h.Entry(n); got != want || e != api.OK || all[n] != want {
				t.Fatalf("P14.2: bound %d, entry %d: %q, %v, %q, want %q", c.want, n, got, e, all[n], want)
			}
		}
		if h.Bound() != c.want || len(all) != c.want {
			t.Errorf("P14.1: bound %d, %d entries, want %d", h.Bound(), len(all), c.want)
		}
	}
}

// seen is what a history tells without being changed.
type seen struct {
	place, drafts int
	entries       string
}

func see(h *hist.History) seen {
	return seen{h.Place(), h.Drafts(), strings.Join(h.Entries(), " ")}
}

func hold(t *testing.T, promise string, h *hist.History, place, drafts int, entries string) {
	t.Helper()
	if got, want := see(h), (seen{place, drafts, entries}); got != want {
		t.Errorf("%s: %+v, want %+v", promise, got, want)
	}
}

// says holds what Go, Back, Forward or Entry answers against what is wanted.
func says(t *testing.T, promise, want string, wantE api.Errno) func(got string, e api.Errno) {
	return func(got string, e api.Errno) {
		t.Helper()
		if got != want || e != wantE {
			t.Errorf("%s: %q, %v, want %q, %v", promise, got, e, want, wantE)
		}
	}
}

// made answers a history with the entries a, b and c, at the bottom.
func made(t *testing.T, bound int) *hist.History {
	t.Helper()
	h := hist.New(bound)
	if !h.Add("a") || !h.Add("b") || !h.Add("c") {
		t.Error("P14.2: Add of a new line: false")
	}
	hold(t, "P14.2", h, 3, 0, "a b c")
	return h
}

// walked answers the same, at the place, with drafts at the bottom and at c.
func walked(t *testing.T, bound, place int) *hist.History {
	t.Helper()
	h := made(t, bound)
	says(t, "P14.4", "c", api.OK)(h.Back("typed"))
	says(t, "P14.3", []string{"a", "b", "C", "typed"}[place], api.OK)(h.Go(place, "C"))
	hold(t, "P14.3", h, place, 2, "a b c")
	return h
}

func TestAddEmptyOrAgain(t *testing.T) {
	for _, bound := range []int{3, 4, 1000} {
		for place := range 4 {
			h := walked(t, bound, place)
			if h.Add("") {
				t.Error("P14.2: Add of an empty line: true")
			}
			hold(t, "P14.2: an empty line ends the walk", h, 3, 0, "a b c")

			h = walked(t, bound, place)
			if h.Add("c") {
				t.Error("P14.2: Add of the newest entry: true")
			}
			hold(t, "P14.2: the newest entry once more", h, 3, 0, "a b c")
			says(t, "P14.2: the draft of c is dropped", "c", api.OK)(h.Back(""))

			// A draft is no entry: only the entry is held against the line.
			h = walked(t, bound, place)
			if !h.Add("C") {
				t.Error("P14.2: Add of a draft: false")
			}
		}
	}
	empty := hist.New(3)
	says(t, "P14.3", "x", api.OK)(empty.Go(0, "x"))
	if empty.Add("") {
		t.Error("P14.2: Add of an empty line without entries: true")
	}
	hold(t, "P14.2: an empty line without entries", empty, 0, 0, "")
}

func TestAddByteByByte(t *testing.T) {
	h := hist.New(9)
	lines := []string{"a", "A", "a ", "a", "\xc3\xa9", "e\xcc\x81", "\xc3", "\xc3\x00", "\x00", "\n", "\r\n", " "}
	for _, line := range lines {
		if !h.Add(line) {
			t.Errorf("P14.2: Add of %q: false, though the newest is another", line)
		}
		if h.Add(line) || h.Add(strings.Clone(line)) {
			t.Errorf("P14.2: Add of %q twice: true", line)
		}
	}
	if !slices.Equal(h.Entries(), lines[len(lines)-9:]) {
		t.Errorf("P14.2: %q, want the last of %q", h.Entries(), lines)
	}
}

func TestAddAtTheBound(t *testing.T) {
	for place := range 4 {
		for bound, want := range map[int][2]string{3: {"b c d", "c d a"}, 4: {"a b c d", "b c d a"}, 5: {"a b c d", "a b c d a"}} {
			h := walked(t, bound, place)
			if !h.Add("d") {
				t.Error("P14.2: Add at the bound: false")
			}
			many := len(strings.Fields(want[0]))
			hold(t, "P14.2: a new line", h, many, 0, want[0])
			says(t, "P14.2: at the bottom", "d", api.OK)(h.Back("typed"))
			if !h.Add("a") {
				t.Error("P14.2: Add of an older entry: false")
			}
			hold(t, "P14.2: an older entry once more", h, len(strings.Fields(want[1])), 0, want[1])
		}
		// At the bound the newest once more drops nothing.
		h := walked(t, 3, place)
		h.Add("c")
		h.Add("")
		hold(t, "P14.2: nothing is dropped for nothing", h, 3, 0, "a b c")
	}
	one := hist.New(1)
	if !one.Add("a") || one.Add("a") || !one.Add("b") || !one.Add("a") {
		t.Error("P14.2: Add with the bound 1")
	}
	hold(t, "P14.2: the bound 1", one, 1, 0, "a")
}

// TestTheBound0: no line is kept, but a draft is.
func TestTheBound0(t *testing.T) {
	for _, h := range []*hist.History{hist.New(0), hist.New(-7), hist.New(math.MinInt), {}} {
		for range 2 {
			if h.Bound() != 0 || h.Add("a") || h.Add("") {
				t.Error("P14.7: a line with the bound 0")
			}
			hold(t, "P14.2: the bound 0", h, 0, 0, "")
			says(t, "P14.7: Back with the bound 0", "", api.ErrNoHistory)(h.Back("x"))
			says(t, "P14.7: Forward with the bound 0", "", api.ErrNoHistory)(h.Forward("x"))
			hold(t, "P14.4: a refusal with the bound 0", h, 0, 0, "")
			says(t, "P14.7: Go(0) with the bound 0", "x", api.OK)(h.Go(0, "x"))
			hold(t, "P14.7: a draft with the bound 0", h, 0, 1, "")
			says(t, "P14.7: Go(0) with the bound 0", "", api.OK)(h.Go(0, ""))
			says(t, "P14.3: Go(1) with the bound 0", "", api.ErrRange)(h.Go(1, "y"))
			says(t, "P14.3: Go(-1) with the bound 0", "", api.ErrRange)(h.Go(-1, "y"))
			says(t, "P14.1: Entry(0) with the bound 0", "", api.ErrRange)(h.Entry(0))
			hold(t, "P14.7: a draft with the bound 0", h, 0, 1, "")
			if i, at, e := h.Find("x", 9); i != 0 || at != 0 || e != api.ErrNotFound {
				t.Error("P14.5: Find with the bound 0:", i, at, e)
			}
		}
		// A line that is refused drops the draft all the same.
		if h.Add("a") || h.Drafts() != 0 {
			t.Error("P14.2: Add with the bound 0 keeps a draft")
		}
		h.Go(0, "x")
		h.Home()
		hold(t, "P14.6: the bound 0", h, 0, 0, "")
	}
}

func TestEntry(t *testing.T) {
	for place := range 4 {
		h := walked(t, 5, place)
		for i, want := range []string{"a", "b", "c"} {
			says(t, "P14.1: Entry, which is no draft", want, api.OK)(h.Entry(i))
		}
		for _, i := range []int{math.MinInt, -1 << 32, -3, -1, 3, 4, 5, 1 << 32, math.MaxInt} {
			says(t, "P14.1: Entry("+strconv.Itoa(i)+")", "", api.ErrRange)(h.Entry(i))
		}
		hold(t, "P14.1: Entry changes nothing", h, place, 2, "a b c")
	}
	says(t, "P14.1: Entry without entries", "", api.ErrRange)(hist.New(5).Entry(0))
}

func TestGoOutOfRange(t *testing.T) {
	texts := []string{"a", "b", "C", "typed"}
	for _, to := range []int{math.MinInt, -1 << 32, -2, -1, 4, 5, 6, 1 << 32, math.MaxInt} {
		for place := range 4 {
			for other := range 4 {
				h := walked(t, 5, place)
				says(t, "P14.3: Go("+strconv.Itoa(to)+")", "", api.ErrRange)(h.Go(to, "not kept"))
				hold(t, "P14.3: what a refusal leaves", h, place, 2, "a b c")
				if other != place {
					says(t, "P14.3: what a refusal leaves", texts[other], api.OK)(h.Go(other, "now"))
				}
			}
		}
	}
}

// TestGo has every way from one place to another.
func TestGo(t *testing.T) {
	entries := []string{"a", "b", "c", ""}
	for from := range 4 {
		for to := range 4 {
			h := made(t, 4)
			says(t, "P14.3: from the bottom", entries[from], api.OK)(h.Go(from, ""))
			many := 1
			if from != 3 {
				many = 2
			}
			want := entries[to]
			if from == to {
				want = "now"
			}
			says(t, "P14.3: Go from "+strconv.Itoa(from)+" to "+strconv.Itoa(to), want, api.OK)(h.Go(to, "now"))
			hold(t, "P14.3", h, to, many, "a b c")
			says(t, "P14.3: back at "+strconv.Itoa(from), "now", api.OK)(h.Go(from, "now"))
		}
	}
}

func TestDrafts(t *testing.T) {
	h := made(t, 4)
	says(t, "P14.3: a draft at the bottom", "c", api.OK)(h.Go(2, "bottom"))
	hold(t, "P14.3: a draft at the bottom", h, 2, 1, "a b c")
	says(t, "P14.3: a draft that is the entry", "b", api.OK)(h.Go(1, "c"))
	hold(t, "P14.3: a draft that is the entry", h, 1, 2, "a b c")
	says(t, "P14.3: an empty draft", "a", api.OK)(h.Go(0, ""))
	hold(t, "P14.3: an empty draft", h, 0, 3, "a b c")
	says(t, "P14.3: the place that is left itself", "A", api.OK)(h.Go(0, "A"))
	hold(t, "P14.3: the place that is left itself", h, 0, 4, "a b c")
	says(t, "P14.3: the place that is left itself", "A2", api.OK)(h.Go(0, "A2"))
	hold(t, "P14.3: a draft in the place of a draft", h, 0, 4, "a b c")
	says(t, "P14.3: an empty draft and not the entry", "", api.OK)(h.Go(1, "A3"))
	says(t, "P14.3: a draft that is the entry", "c", api.OK)(h.Go(2, "b again"))
	says(t, "P14.3: the draft at the bottom", "bottom", api.OK)(h.Go(3, ""))
	says(t, "P14.3: an empty draft and not the entry", "", api.OK)(h.Go(2, ""))
	says(t, "P14.3: an empty draft at the bottom", "", api.OK)(h.Go(3, ""))
	hold(t, "P14.3", h, 3, 4, "a b c")
	says(t, "P14.4: the newest draft", "b again", api.OK)(h.Go(1, ""))
	says(t, "P14.4: the newest draft", "A3", api.OK)(h.Go(0, ""))
}

func TestBackAtTheOldest(t *testing.T) {
	h := walked(t, 4, 0)
	for _, now := range []string{"not kept", "", "a"} {
		says(t, "P14.4: Back at the place 0", "", api.ErrNoHistory)(h.Back(now))
		hold(t, "P14.4: what a refusal leaves", h, 0, 2, "a b c")
	}
	says(t, "P14.4", "b", api.OK)(h.Forward("kept"))
	says(t, "P14.4: a refused text isn't kept", "kept", api.OK)(h.Back("B"))
	says(t, "P14.4: Back at the place 0", "", api.ErrNoHistory)(h.Back("not kept"))
	hold(t, "P14.4: what a refusal leaves", h, 0, 4, "a b c")
	says(t, "P14.4", "B", api.OK)(h.Forward("a"))
	says(t, "P14.4", "C", api.OK)(h.Forward("B"))
	says(t, "P14.4", "typed", api.OK)(h.Forward("C"))
}

func TestForwardAtTheBottom(t *testing.T) {
	h := made(t, 4)
	for _, now := range []string{"not kept", "", "c"} {
		says(t, "P14.4: Forward at the bottom", "", api.ErrNoHistory)(h.Forward(now))
		hold(t, "P14.4: what a refusal leaves", h, 3, 0, "a b c")
	}
	says(t, "P14.4", "c", api.OK)(h.Back("kept"))
	says(t, "P14.4: a refused text isn't kept", "kept", api.OK)(h.Forward("C"))
	says(t, "P14.4: Forward at the bottom", "", api.ErrNoHistory)(h.Forward("not kept"))
	hold(t, "P14.4: what a refusal leaves", h, 3, 2, "a b c")
	says(t, "P14.4: a draft stays behind a refusal", "C", api.OK)(h.Back("new"))
	says(t, "P14.4: a draft of the bottom", "new", api.OK)(h.Forward("C"))
	empty := hist.New(4)
	says(t, "P14.4: Back without entries", "", api.ErrNoHistory)(empty.Back("x"))
	says(t, "P14.4: Forward without entries", "", api.ErrNoHistory)(empty.Forward("x"))
	hold(t, "P14.4: what a refusal leaves", empty, 0, 0, "")
}

func TestHome(t *testing.T) {
	for place := range 4 {
		h := walked(t, 4, place)
		for range 2 {
			h.Home()
			hold(t, "P14.6: from the place "+strconv.Itoa(place), h, 3, 0, "a b c")
		}
		says(t, "P14.6: Forward behind Home", "", api.ErrNoHistory)(h.Forward("x"))
		says(t, "P14.6: the draft of c is dropped", "c", api.OK)(h.Back(""))
		says(t, "P14.6: the draft of the bottom is dropped", "", api.OK)(h.Forward("c"))
	}
	for place := range 4 {
		h := walked(t, 4, place)
		h.Home()
		says(t, "P14.6: the oldest behind Home", "a", api.OK)(h.Go(0, "y"))
		says(t, "P14.6: the bottom behind Home", "y", api.OK)(h.Go(3, "a"))
	}
	empty := hist.New(4)
	empty.Go(0, "x")
	empty.Home()
	hold(t, "P14.6: without entries", empty, 0, 0, "")
	says(t, "P14.6: Back behind Home", "", api.ErrNoHistory)(empty.Back("x"))
}
