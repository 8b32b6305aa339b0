package store_test

import (
	"math"
	"strings"
	"testing"
	"time"
	"unsafe"

	"bodkin/api"
	"bodkin/gap"
	"bodkin/metric"
	"bodkin/store"
)

// A store and a gap buffer are texts: this does not build otherwise (P9.9).
var (
	_ store.Text = (*store.Store)(nil)
	_ store.Text = (*gap.Buffer)(nil)
)

// wrongNumbers are far out of every range; sums of two of them wrap round.
var wrongNumbers = []int{math.MinInt, math.MinInt + 1, math.MinInt + 2, -1 << 32, 1 << 32, math.MaxInt - 2, math.MaxInt - 1, math.MaxInt}

// wrongKinds are outside the table of kinds, but KindHybrid, which is no backend.
var wrongKinds = []api.Kind{math.MinInt, -3, -2, -1, 0, 3, 4, 5, 9, 258, math.MaxInt}

// near lists the offsets of a text of n bytes with some beside them, and the wrong numbers.
func near(n int) []int {
	list := append([]int(nil), wrongNumbers...)
	for at := -2; at <= n+2; at++ {
		list = append(list, at)
	}
	return list
}

// places is what is answered of an offset.
type places struct {
	boundary         bool
	next, prev, snap int
}

func placesOf(s *store.Store, at int) places {
	return places{s.Boundary(at), s.Next(at), s.Prev(at), s.Snap(at)}
}

// pair is a store, and the plain text that is kept beside it.
type pair struct {
	s *store.Store
	p *plain
}

func newPair(t *testing.T, kind api.Kind, lo, hi, limit int, text string) pair {
	t.Helper()
	s, e := store.New(kind, lo, hi, limit, text)
	if s == nil || e != api.OK {
		t.Fatalf("P9.1: New(%d, %d, %d, %d, %.99q): %v, %v", kind, lo, hi, limit, text, s, e)
	}
	x := pair{s, newPlain(kind, lo, hi, limit, text)}
	x.same(t, "New")
	return x
}

// same holds the text and all numbers of the store against the plain one's.
func (x pair) same(t *testing.T, behind string) {
	t.Helper()
	s, p := x.s, x.p
	if s.Text() != p.text || s.Len() != len(p.text) || s.Limit() != p.limit {
		t.Fatalf("P9.2: behind %s: text %.99q, length %d, limit %d, want %.99v", behind, s.Text(), s.Len(), s.Limit(), *p)
	}
	lo, hi := s.Thresholds()
	if s.Kind() != p.kind || lo != p.lo || hi != p.hi {
		t.Fatalf("P9.2: behind %s: kind %d, thresholds %d and %d, want %.99v", behind, s.Kind(), lo, hi, *p)
	}
	if s.Backend() != p.backend || s.Counts() != p.counts {
		t.Fatalf("P9.3: behind %s: backend %d, counts %v, want %.99v", behind, s.Backend(), s.Counts(), *p)
	}
	c := s.Counts()
	if c.Moves > 1+c.Forced+c.Edited/(hi-lo) || p.kind != api.KindHybrid && c.Moves != 0 {
		t.Fatalf("P9.6: behind %s: %v of kind %d with the thresholds %d and %d", behind, c, p.kind, lo, hi)
	}
}

// call is a call that works on a store.
type call struct {
	name    string
	at, cut int
	put     string
	to      api.Kind
}

// onStore carries the call out by the package.
func (c call) onStore(s *store.Store) (string, api.Errno) {
	switch c.name {
	case "Insert":
		return "", s.Insert(c.at, c.put)
	case "Delete":
		return s.Delete(c.at, c.cut)
	case "Replace":
		return s.Replace(c.at, c.cut, c.put)
	case "Reset":
		return "", s.Reset(c.put)
	}
	return "", s.Switch(c.to)
}

// onPlain carries the call out by the chapter's words.
func (c call) onPlain(p *plain) (string, api.Errno) {
	switch c.name {
	case "Insert":
		return p.edit(c.at, 0, c.put)
	case "Delete":
		return p.edit(c.at, c.cut, "")
	case "Replace":
		return p.edit(c.at, c.cut, c.put)
	case "Reset":
		_, e := p.edit(0, len(p.text), c.put)
		return "", e
	}
	return "", p.switchTo(c.to)
}

// do carries the call out on both, and holds what they answer and become against each other.
func (x pair) do(t *testing.T, c call) {
	t.Helper()
	before := *x.p
	out, e := c.onStore(x.s)
	wantOut, want := c.onPlain(x.p)
	if out != wantOut || e != want {
		t.Fatalf("P9.3, P9.4: %.99v behind %.99v: %.99q, %v, want %.99q, %v", c, before, out, e, wantOut, want)
	}
	if want != api.OK && *x.p != before {
		t.Fatalf("the test itself: %.99v was refused and changed %.99v", c, before)
	}
	x.same(t, c.name)
}

// look holds all that is told of the offsets given against the plain text.
func (x pair) look(t *testing.T, offsets []int) {
	t.Helper()
	for _, from := range offsets {
		if got, want := placesOf(x.s, from), x.p.places(from); got != want {
			t.Fatalf("P9.2: Boundary, Next, Prev, Snap of %d in %.199q by backend %d: %v, want %v", from, x.p.text, x.s.Backend(), got, want)
		}
		for _, to := range offsets {
			x.lookBetween(t, from, to)
		}
	}
	x.same(t, "looking")
}

func (x pair) lookBetween(t *testing.T, from, to int) {
	t.Helper()
	s, e := x.s.Slice(from, to)
	if want, wantE := x.p.slice(from, to); s != want || e != wantE {
		t.Fatalf("P9.2: Slice(%d, %d) of %.99v: %.99q, %v, want %.99q, %v", from, to, *x.p, s, e, want, wantE)
	}
	m, e := x.s.Measure(from, to)
	if want, wantE := x.p.measure(from, to); m != want || e != wantE {
		t.Fatalf("P9.2: Measure(%d, %d) of %.99v: %v, %v, want %v, %v", from, to, *x.p, m, e, want, wantE)
	}
}

// TestNew has every kind and kinds outside the table, with thresholds of all sorts, about a text's length.
func TestNew(t *testing.T) {
	far := []int{math.MinInt, -1, 0, 1, 1<<30 - 1, 1 << 30, 1<<30 + 1, math.MaxInt}
	for _, kind := range append([]api.Kind{1, 2}, wrongKinds...) {
		for _, text := range []string{"", "a", "a\u0301\r\nb", strings.Repeat("x\u4e00", 50)} {
			n := len(text)
			list := append([]int{n - 1, n, n + 1, n + 2}, far...)
			for _, lo := range list {
				for _, hi := range list {
					x := newPair(t, kind, lo, hi, n+1, text)
					x.do(t, call{name: "Insert", at: n, put: "y"})
					x.do(t, call{name: "Delete", at: 0, cut: min(n, 2)})
				}
			}
		}
	}
}

func TestNewWrittenDown(t *testing.T) {
	for _, x := range []struct {
		kind          api.Kind
		lo, hi        int
		text          string
		counts        api.Kind
		low, high     int
		backend       api.Kind
		limit, limits int
	}{
		{api.KindGap, 0, 1, "abc", api.KindGap, 0, 1, api.KindGap, 9, 9},
		{api.KindRope, 7, 9, "abc", api.KindRope, 7, 9, api.KindRope, 9, 9},
		{api.KindHybrid, 1, 3, "abc", api.KindHybrid, 1, 3, api.KindRope, 3, 3},
		{api.KindHybrid, 1, 4, "abc", api.KindHybrid, 1, 4, api.KindGap, 3, 3},
		{api.KindHybrid, 3, 3, "abc", api.KindHybrid, 3, 4, api.KindGap, 3, 3},
		{api.KindHybrid, 2, -9, "abc", api.KindHybrid, 2, 3, api.KindRope, 3, 3},
		{0, -1, -1, "", api.KindHybrid, 0, 1, api.KindGap, -1, 0},
		{4, math.MinInt, math.MinInt, "a", api.KindHybrid, 0, 1, api.KindRope, 1 << 30, 1073741824},
		{-1, math.MaxInt, math.MaxInt, "a", api.KindHybrid, 1073741824, math.MaxInt, api.KindGap, 1<<30 + 1, 1073741824},
		{api.KindRope, math.MaxInt, 5, "", api.KindRope, 1073741824, 1073741825, api.KindRope, math.MaxInt, 1073741824},
		{api.KindGap, 1 << 30, 1 << 30, "", api.KindGap, 1073741824, 1073741825, api.KindGap, math.MinInt, 0},
	} {
		s, e := store.New(x.kind, x.lo, x.hi, x.limit, x.text)
		if e != api.OK {
			t.Fatalf("P9.1: New of %v: %v", x, e)
		}
		lo, hi := s.Thresholds()
		if s.Kind() != x.counts || lo != x.low || hi != x.high || s.Backend() != x.backend || s.Limit() != x.limits || s.Text() != x.text || s.Counts() != (api.Counts{}) {
			t.Errorf("P9.1: New of %v: %v, %v, %v, %v, %v, %v", x, s.Kind(), lo, hi, s.Backend(), s.Limit(), s.Counts())
		}
	}
}

// TestLimits has texts shorter than their limits, as long and longer, by each backend.
func TestLimits(t *testing.T) {
	for _, kind := range []api.Kind{1, 2, 3} {
		for _, text := range []string{"", "a", "ab", strings.Repeat("xyz", 50)} {
			n := len(text)
			for _, limit := range append(near(n), 1<<30) {
				if n > heldTo(limit, 1<<30) {
					if s, e := store.New(kind, 0, 9, limit, text); s != nil || e != api.ErrFull {
						t.Errorf("P9.1: New of %d bytes with the limit %d: %v, %v", n, limit, s, e)
					}
					continue
				}
				x := newPair(t, kind, 0, 9, limit, text)
				x.do(t, call{name: "Insert", at: n, put: "yz"})
				x.do(t, call{name: "Reset", put: text + "."})
				x.do(t, call{name: "Replace", cut: min(n, 1), put: ".."})
				x.do(t, call{name: "Replace", cut: n, put: text})
			}
		}
	}
}

// TestMostBytes has texts a byte longer than the greatest limit. They are only ever asked for their length, so that no memory is behind them.
func TestMostBytes(t *testing.T) {
	long := unsafe.String(unsafe.SliceData(make([]byte, 1<<30+1)), 1<<30+1)
	for _, kind := range []api.Kind{1, 2, 3} {
		if s, e := store.New(kind, 0, 1, math.MaxInt, long); s != nil || e != api.ErrFull {
			t.Error("P9.1: New of a text longer than MostBytes:", e)
		}
		x := newPair(t, kind, 0, 2, math.MaxInt, "ab")
		for _, c := range []struct {
			at, cut int
			put     string
			want    api.Errno
		}{{1, 0, long[:1<<30-1], api.ErrFull}, {3, 0, long, api.ErrRange}, {0, 1, long[1:], api.ErrFull}, {0, 2, long, api.ErrFull}} {
			if out, e := x.s.Replace(c.at, c.cut, c.put); out != "" || e != c.want {
				t.Errorf("P9.3: Replace(%d, %d) with %d bytes: %q, %v, want %v", c.at, c.cut, len(c.put), out, e, c.want)
			}
			x.same(t, "a refusal")
		}
		if e := x.s.Reset(long); e != api.ErrFull {
			t.Error("P9.3: Reset to a text longer than MostBytes:", e)
		}
		x.same(t, "a refusal")
	}
}

// calls lists calls of every kind at every offset, for a text of n bytes.
func calls(n int, puts []string) []call {
	list := []call{{name: "Switch", to: api.KindGap}, {name: "Switch", to: api.KindRope}, {name: "Switch", to: api.KindHybrid}}
	for at := -1; at <= n+1; at++ {
		for cut := -1; cut <= n-at+1; cut++ {
			list = append(list, call{name: "Delete", at: at, cut: cut})
			for _, put := range puts {
				list = append(list, call{name: "Replace", at: at, cut: cut, put: put})
			}
		}
		for _, put := range puts {
			list = append(list, call{name: "Insert", at: at, put: put})
		}
	}
	for _, put := range puts {
		list = append(list, call{name: "Reset", put: put})
	}
	return list
}

// TestTwoCalls carries out two calls, one behind the other, in all ways that short texts, low limits and thresholds have.
func TestTwoCalls(t *testing.T) {
	puts := []string{"", "x", "wxyz"}
	for _, kind := range []api.Kind{1, 2, 3} {
		for _, th := range [][2]int{{0, 1}, {1, 2}, {1, 4}, {3, 4}} {
			for _, start := range []string{"", "abc"} {
				for _, first := range calls(len(start), puts) {
					x := newPair(t, kind, th[0], th[1], 5, start)
					x.do(t, first)
					x.look(t, []int{-1, 0, 1, len(x.p.text), len(x.p.text) + 1})
					for _, second := range calls(len(x.p.text), puts) {
						y := newPair(t, kind, th[0], th[1], 5, start)
						y.do(t, first)
						y.do(t, second)
					}
				}
			}
		}
	}
}

// TestThresholds lets a hybrid grow and shrink by single bytes over its thresholds, and tells at which lengths it moves.
func TestThresholds(t *testing.T) {
	for _, th := range [][2]int{{0, 1}, {0, 2}, {3, 4}, {5, 9}, {63, 64}, {40, 130}} {
		x := newPair(t, api.KindHybrid, th[0], th[1], 999, "")
		for round := 1; round <= 3; round++ {
			for x.s.Len() < th[1]+3 {
				x.do(t, call{name: "Insert", at: x.s.Len() / 2, put: "x"})
				if rope := x.s.Backend() == api.KindRope; rope != (x.s.Len() >= th[1]) {
					t.Fatalf("P9.3: growing to %d with the thresholds %v: backend %d", x.s.Len(), th, x.s.Backend())
				}
			}
			for x.s.Len() > 0 {
				x.do(t, call{name: "Delete", at: x.s.Len() / 2, cut: 1})
				if rope := x.s.Backend() == api.KindRope; rope != (x.s.Len() > th[0]) {
					t.Fatalf("P9.3: shrinking to %d with the thresholds %v: backend %d", x.s.Len(), th, x.s.Backend())
				}
			}
			if x.s.Counts() != (api.Counts{Moves: 2 * round, Edited: 2 * round * (th[1] + 3)}) {
				t.Fatalf("P9.3: round %d with the thresholds %v: %v", round, th, x.s.Counts())
			}
		}
	}
}

// TestEditOfNothing has edits that change no byte: they work, and move a hybrid that was switched to where it doesn't belong.
func TestEditOfNothing(t *testing.T) {
	nothings := []call{{name: "Insert", at: 2}, {name: "Delete", at: 4}, {name: "Replace"}, {name: "Replace", at: 1, cut: 2, put: "bc"}, {name: "Reset", put: "abcd"}}
	for _, kind := range []api.Kind{1, 2, 3} {
		for _, th := range [][2]int{{4, 8}, {3, 4}, {3, 5}, {5, 6}, {2, 9}} {
			for _, to := range []api.Kind{1, 2} {
				for _, c := range nothings {
					x := newPair(t, kind, th[0], th[1], 9, "abcd")
					x.do(t, call{name: "Switch", to: to})
					for range 3 {
						x.do(t, c)
					}
				}
			}
		}
	}
	s, _ := store.New(api.KindHybrid, 4, 8, 9, "abcd")
	s.Switch(api.KindRope)
	if s.Backend() != api.KindRope || s.Counts() != (api.Counts{Forced: 1}) {
		t.Error("P9.4: a hybrid moved on ahead of an edit:", s.Backend(), s.Counts())
	}
	if _, e := s.Delete(0, 5); e != api.ErrRange || s.Backend() != api.KindRope || s.Counts() != (api.Counts{Forced: 1}) {
		t.Error("P9.3: a hybrid moved on with an edit that was refused:", e, s.Backend(), s.Counts())
	}
	if _, e := s.Delete(2, 0); e != api.OK || s.Backend() != api.KindGap || s.Counts() != (api.Counts{Forced: 1, Moves: 1}) {
		t.Error("P9.4: a hybrid didn't move on with an edit of nothing:", e, s.Backend(), s.Counts())
	}
}

// TestSwitch has every kind as the one to switch to.
func TestSwitch(t *testing.T) {
	for _, kind := range []api.Kind{1, 2, 3} {
		for _, text := range []string{"", "ab", strings.Repeat("a\u0301\xff", 70)} {
			x := newPair(t, kind, 1, 2, 999, text)
			for _, first := range []api.Kind{1, 2} {
				for _, second := range append([]api.Kind{1, 2}, wrongKinds...) {
					x.do(t, call{name: "Switch", to: first})
					x.do(t, call{name: "Switch", to: second})
					if e := x.s.Switch(second); second != 1 && second != 2 && e != api.ErrKind || x.s.Text() != text {
						t.Fatalf("P9.4: Switch(%d): %v", second, e)
					}
					x.same(t, "Switch")
				}
			}
			x.do(t, call{name: "Insert", at: len(text), put: "\r\n"})
			x.do(t, call{name: "Reset", put: text})
		}
	}
}

// numbers answers numbers that look mixed, the same ones at each run.
func numbers(seed uint64) func(below int) int {
	return func(below int) int {
		seed = seed*6364136223846793005 + 1442695040888963407
		return int(seed>>33) % below
	}
}

// someCall answers a call of any kind, mostly with numbers in their ranges.
func someCall(next func(int) int, n, most int) call {
	c := call{name: []string{"Insert", "Delete", "Replace", "Replace", "Switch", "Reset"}[next(6)]}
	if c.name == "Reset" && next(8) > 0 {
		c.name = "Insert"
	}
	c.at = next(n + 1)
	c.cut = next(min(n-c.at, most) + 1)
	c.put = strings.Repeat("a\u4e00\u0301\u0301\r\n\xff\U0001F600\xcc\x01", 2+most/9)[next(21):][:next(most+1)]
	c.to = api.Kind(1 + next(2))
	switch next(40) {
	case 0:
		c.at = wrongNumbers[next(len(wrongNumbers))]
	case 1:
		c.cut = wrongNumbers[next(len(wrongNumbers))]
	case 2:
		c.at, c.cut = n+1, 0
	case 3:
		c.cut = n - c.at + 1
	case 4:
		c.to = wrongKinds[next(len(wrongKinds))]
	case 5:
		c.cut, c.put = 0, ""
	}
	return c
}

// TestManyCalls has long runs of calls on stores of every kind and of many thresholds at once, with all that is seen behind each of them.
func TestManyCalls(t *testing.T) {
	thresholds := [][2]int{{0, 1}, {3, 5}, {20, 64}, {64, 65}, {50, 200}, {300, 100}, {0, math.MaxInt}, {math.MaxInt, 0}}
	for seed, limit := range []int{0, 5, 64, 300, math.MaxInt} {
		for _, most := range []int{3, 20, 150} {
			next := numbers(uint64(1000*seed + most))
			var all []pair
			for _, kind := range []api.Kind{1, 2, 3, 7} {
				for _, th := range thresholds {
					all = append(all, newPair(t, kind, th[0], th[1], limit, ""))
				}
			}
			for range 150 {
				n := all[0].s.Len()
				c := someCall(next, n, most)
				for i, x := range all {
					// A switch is put in anywhere, and comes to some stores alone.
					if c.name != "Switch" || (i+next(3))%3 == 0 {
						x.do(t, c)
					}
					n := x.s.Len()
					x.look(t, []int{-1, 0, next(n + 1), c.at, c.at + 1, n - 1, n, n + 1})
					if !store.Same(all[0].s, x.s) {
						t.Fatalf("P9.5: behind %v one text is %.99q, another %.99q", c, all[0].s.Text(), x.s.Text())
					}
				}
			}
		}
	}
}

// TestSameAnswers has the same edits on stores of all kinds, with switches put in, and holds all answers against the first one's.
func TestSameAnswers(t *testing.T) {
	for seed := range 6 {
		next := numbers(uint64(seed))
		var all []*store.Store
		for kind := api.Kind(1); kind <= 3; kind++ {
			for _, hi := range []int{1, 40, 200} {
				s, _ := store.New(kind, hi/2, hi, 250, "first\r\n")
				all = append(all, s)
			}
		}
		for range 200 {
			n := all[0].Len()
			c := someCall(next, n, 60)
			if c.name == "Switch" {
				continue
			}
			from, to := next(n+2)-1, next(n+2)-1
			var first answers
			for i, s := range all {
				if next(4) == 0 {
					s.Switch(api.Kind(1 + next(2)))
				}
				got := answersOf(s, c, from, to)
				if i == 0 {
					first = got
				}
				if got != first {
					t.Fatalf("P9.5: %v of store %d: %v, want %v", c, i, got, first)
				}
			}
		}
	}
}

// answers is all that doesn't tell a store's kind.
type answers struct {
	out, text, slice string
	e, sliceE, sumE  api.Errno
	sum              api.Summary
	places           places
	n, limit         int
}

func answersOf(s *store.Store, c call, from, to int) answers {
	var a answers
	a.out, a.e = c.onStore(s)
	a.text, a.n, a.limit = s.Text(), s.Len(), s.Limit()
	a.slice, a.sliceE = s.Slice(from, to)
	a.sum, a.sumE = s.Measure(from, to)
	a.places = placesOf(s, from)
	return a
}

// TestWrongNumbers has each pair of numbers near the text's and far from them, by each backend.
func TestWrongNumbers(t *testing.T) {
	for _, kind := range []api.Kind{1, 2, 3} {
		x := newPair(t, kind, 2, 4, 6, "a\u0301\r\n")
		x.look(t, near(5))
		for _, at := range near(5) {
			for _, cut := range near(5) {
				for _, put := range []string{"", "xy"} {
					for _, name := range []string{"Insert", "Delete", "Replace"} {
						x := newPair(t, kind, 2, 4, 6, "a\u0301\r\n")
						x.do(t, call{name: name, at: at, cut: cut, put: put})
					}
				}
			}
		}
	}
}

// TestRefusalsWrittenDown has what is refused, and by which error where both apply.
func TestRefusalsWrittenDown(t *testing.T) {
	for _, x := range []struct {
		call call
		want api.Errno
	}{
		{call{name: "Insert", at: -1, put: "x"}, api.ErrRange}, {call{name: "Insert", at: 6, put: "xyz"}, api.ErrRange}, {call{name: "Insert", at: 5, put: "xyz"}, api.ErrFull},
		{call{name: "Delete", at: 1, cut: -1}, api.ErrRange}, {call{name: "Delete", at: 5, cut: 1}, api.ErrRange}, {call{name: "Delete", at: 1, cut: math.MaxInt}, api.ErrRange},
		{call{name: "Delete", at: math.MaxInt, cut: math.MaxInt}, api.ErrRange}, {call{name: "Delete", at: math.MinInt, cut: math.MinInt}, api.ErrRange},
		{call{name: "Replace", at: 0, cut: 6, put: "xyzxyzxyz"}, api.ErrRange}, {call{name: "Replace", at: 0, cut: 5, put: "xyzxyzxy"}, api.ErrFull},
		{call{name: "Reset", put: "xyzxyzxy"}, api.ErrFull}, {call{name: "Switch", to: api.KindHybrid}, api.ErrKind}, {call{name: "Switch", to: 0}, api.ErrKind}, {call{name: "Switch", to: -1}, api.ErrKind},
	} {
		for _, kind := range []api.Kind{1, 2, 3} {
			for _, to := range []api.Kind{1, 2} {
				s, _ := store.New(kind, 2, 4, 7, "abcde")
				s.Switch(to)
				counts := s.Counts()
				if out, e := x.call.onStore(s); out != "" || e != x.want {
					t.Errorf("P9.3, P9.4: %v: %q, %v, want %v", x.call, out, e, x.want)
				}
				if s.Text() != "abcde" || s.Backend() != to || s.Counts() != counts || s.Kind() != kind || s.Limit() != 7 {
					t.Errorf("P9.3, P9.4: %v was refused, and is seen: %q, %d, %v", x.call, s.Text(), s.Backend(), s.Counts())
				}
			}
		}
	}
}

// TestPlaces asks for every offset of texts whose clusters are short, long, very long and cut through.
func TestPlaces(t *testing.T) {
	marks := strings.Repeat("\u0301", 40)
	for _, text := range []string{
		"", "a", "\r\n", "\u0301", "\xe4\xb8", "a\u0301b\r\n\x01\u0301\xff\u4e00\U0001F600\u0301", strings.Repeat("\r\n", 30), strings.Repeat("\U0001F600", 30),
		marks, "a" + marks, marks + "a", "\n" + marks + "\r\n", "ab" + marks + marks + marks + marks + "cd", strings.Repeat("x", 50) + marks + strings.Repeat("y", 50) + marks,
		strings.Repeat("\xf0\x9f\x98", 30), strings.Repeat("\xcc", 70), strings.Repeat("\x81", 70), strings.Repeat("\r", 70), strings.Repeat("\x81", 27) + marks + "\xcc",
	} {
		for _, kind := range []api.Kind{1, 2} {
			x := newPair(t, kind, 0, 1, 999, text)
			for _, at := range near(len(text)) {
				if got, want := placesOf(x.s, at), x.p.places(at); got != want {
					t.Errorf("P9.2: Boundary, Next, Prev, Snap of %d in %.199q: %v, want %v", at, text, got, want)
				}
			}
		}
	}
}

// TestPlacesAtEachDistance lays clusters of marks of each length, up to some beyond where a look about is first cut off, and asks for all their offsets.
func TestPlacesAtEachDistance(t *testing.T) {
	for _, mark := range []string{"\u0301", "\u20d0", "\U0001F3FB", "\U000E0100"} {
		for _, first := range []string{"\r\n", "e", "\x01", "\u0085", "\u4e00", "\U0001F600", "\xf0\x9f\x98", "\xf3\xa0\x84", "\x80"} {
			for n := range 40 / len(mark) {
				text := "abc" + first + strings.Repeat(mark, n) + first + mark[:n%len(mark)]
				for _, kind := range []api.Kind{1, 2} {
					x := newPair(t, kind, 0, 1, 999, text)
					for at := range len(text) + 1 {
						if got, want := placesOf(x.s, at), x.p.places(at); got != want {
							t.Fatalf("P9.2: Boundary, Next, Prev, Snap of %d in %.199q: %v, want %v", at, text, got, want)
						}
					}
				}
			}
		}
	}
}

// TestClone lets a clone and its original go their own ways, from each backend and to each.
func TestClone(t *testing.T) {
	for _, kind := range []api.Kind{1, 2, 3} {
		for _, text := range []string{"", "abc", strings.Repeat("long ", 60)} {
			for _, from := range []api.Kind{1, 2} {
				for _, c := range calls(min(len(text), 3), []string{"", "x"}) {
					for _, cloneWorks := range []bool{false, true} {
						x := newPair(t, kind, 2, 4, 400, text)
						x.do(t, call{name: "Insert", at: 0, put: "+"})
						x.do(t, call{name: "Switch", to: from})
						like := *x.p
						y := pair{x.s.Clone(), &like}
						if y.s == nil || y.s == x.s {
							t.Fatalf("P9.8: the clone of %p is %p", x.s, y.s)
						}
						y.same(t, "Clone")
						if cloneWorks {
							x, y = y, x
						}
						x.do(t, c)
						y.same(t, "what was done to the other")
						y.do(t, call{name: "Replace", at: 0, cut: len(y.p.text), put: strings.Repeat("o", len(y.p.text))})
						y.do(t, call{name: "Switch", to: 3 - from})
						x.same(t, "what was done to the other")
					}
				}
			}
		}
	}
}

// TestCloneOfClone asks that a clone is like a store that went the same way.
func TestCloneOfClone(t *testing.T) {
	x := newPair(t, api.KindHybrid, 30, 90, 300, "")
	next := numbers(7)
	for range 600 {
		x.do(t, someCall(next, len(x.p.text), 90))
		x.s = x.s.Clone()
		x.same(t, "Clone")
	}
}

// TestNil has every call on no store: it is never changed.
func TestNil(t *testing.T) {
	var none *store.Store
	x := pair{none, noPlain()}
	for _, at := range near(0) {
		for _, put := range []string{"", "x"} {
			for _, cut := range near(0) {
				for _, name := range []string{"Insert", "Delete", "Replace", "Reset"} {
					x.do(t, call{name: name, at: at, cut: cut, put: put})
				}
			}
		}
	}
	x.look(t, near(0))
	for _, to := range append([]api.Kind{1, 2}, wrongKinds...) {
		if e := none.Switch(to); e != api.ErrKind {
			t.Errorf("P9.8: Switch(%d) of nil: %v", to, e)
		}
	}
	x.same(t, "Switch")
	if none.Clone() != nil {
		t.Error("P9.8: the clone of nil")
	}
}

// TestZero has every call on the zero Store and on its clone, by both backends.
func TestZero(t *testing.T) {
	for name, s := range map[string]*store.Store{"the zero Store": {}, "its clone": new(store.Store).Clone()} {
		if s == nil {
			t.Fatal("P9.8: there is no", name)
		}
		x := pair{s, noPlain()}
		x.same(t, "nothing, of "+name)
		for _, to := range append([]api.Kind{2, 1, 2}, wrongKinds...) {
			for _, at := range near(0) {
				for _, put := range []string{"", "x"} {
					for _, cut := range near(0) {
						for _, edit := range []string{"Insert", "Delete", "Replace", "Reset"} {
							x.do(t, call{name: "Switch", to: to})
							x.do(t, call{name: edit, at: at, cut: cut, put: put})
						}
					}
				}
			}
			x.look(t, near(0))
		}
	}
}

func TestNothingWrittenDown(t *testing.T) {
	for name, s := range map[string]*store.Store{"nil": nil, "the zero Store": {}} {
		for _, x := range []struct {
			call call
			want api.Errno
		}{
			{call{name: "Insert"}, api.OK}, {call{name: "Delete"}, api.OK}, {call{name: "Replace"}, api.OK}, {call{name: "Reset"}, api.OK},
			{call{name: "Insert", at: 1, put: "x"}, api.ErrRange}, {call{name: "Insert", put: "x"}, api.ErrFull}, {call{name: "Delete", cut: 1}, api.ErrRange},
			{call{name: "Replace", cut: 1, put: "x"}, api.ErrRange}, {call{name: "Replace", put: "x"}, api.ErrFull}, {call{name: "Reset", put: "x"}, api.ErrFull},
		} {
			if out, e := x.call.onStore(s); out != "" || e != x.want {
				t.Errorf("P9.8: %v of %s: %q, %v, want %v", x.call, name, out, e, x.want)
			}
			lo, hi := s.Thresholds()
			if s.Kind() != api.KindHybrid || s.Backend() != api.KindGap || lo != 0 || hi != 1 || s.Limit() != 0 || s.Counts() != (api.Counts{}) || s.Len() != 0 || s.Text() != "" {
				t.Errorf("P9.8: %v changed %s", x.call, name)
			}
		}
		if !s.Boundary(0) || s.Boundary(1) || s.Next(-5) != 0 || s.Next(5) != 0 || s.Prev(5) != 0 || s.Snap(-5) != 0 || s.Snap(5) != 0 {
			t.Errorf("P9.8: the places of %s", name)
		}
		if m, e := s.Measure(0, 0); m != metric.Measure("") || e != api.OK {
			t.Errorf("P9.8: Measure(0, 0) of %s: %v, %v", name, m, e)
		}
		if text, e := s.Slice(0, 1); text != "" || e != api.ErrRange {
			t.Errorf("P9.8: Slice(0, 1) of %s: %q, %v", name, text, e)
		}
	}
	var zero store.Store
	if e := zero.Switch(api.KindRope); e != api.OK || zero.Backend() != api.KindRope || zero.Counts() != (api.Counts{Forced: 1}) {
		t.Error("P9.8: Switch of the zero Store:", e, zero.Backend(), zero.Counts())
	}
	if e := zero.Insert(0, "x"); e != api.ErrFull || zero.Backend() != api.KindRope {
		t.Error("P9.8: the zero Store behind a switch:", e, zero.Backend())
	}
	if e := zero.Insert(0, ""); e != api.OK || zero.Backend() != api.KindGap || zero.Counts() != (api.Counts{Moves: 1, Forced: 1}) {
		t.Error("P9.8: the zero Store behind a switch and an edit of nothing:", e, zero.Backend(), zero.Counts())
	}
}

// strange is a text of another's making: it refuses, or panics, or is nil.
type strange struct {
	store.Text
	n int
}

func (s *strange) Len() int { return s.n }

func TestSame(t *testing.T) {
	long := strings.Repeat("\u4e00\r\n", 99)
	made := func(kind api.Kind, text string) *store.Store {
		s, _ := store.New(kind, 0, 9, 999, text)
		return s
	}
	buffer := func(text string) *gap.Buffer {
		b, _ := gap.New(text, 999)
		return b
	}
	var noStore *store.Store
	var noBuffer *gap.Buffer
	texts := []struct {
		text string
		of   store.Text
	}{
		{"", nil}, {"", noStore}, {"", noBuffer}, {"", &store.Store{}}, {"", &gap.Buffer{}}, {"", made(1, "")}, {"", made(2, "")}, {"", buffer("")},
		{"a", made(1, "a")}, {"a", made(2, "a")}, {"a", buffer("a")}, {"b", made(3, "b")}, {"ab", made(2, "ab")}, {"ab", buffer("ab")}, {"ba", made(1, "ba")},
		{"\x00", made(1, "\x00")}, {"\xff", made(2, "\xff")}, {"\ufffd", made(1, "\ufffd")},
		{long, made(1, long)}, {long, made(2, long)}, {long, made(3, long)}, {long, buffer(long)}, {long[1:], made(2, long[1:])}, {long[:494] + "x", made(3, long[:494]+"x")},
	}
	for _, a := range texts {
		for _, b := range texts {
			if got := store.Same(a.of, b.of); got != (a.text == b.text) {
				t.Errorf("P9.7: Same of %.99q (%T) and %.99q (%T): %v", a.text, a.of, b.text, b.of, got)
			}
		}
	}
}

// TestSameOfStrangers has texts that can't be told: the call ends all the same.
func TestSameOfStrangers(t *testing.T) {
	a, _ := store.New(api.KindGap, 0, 9, 99, "ab")
	var none *strange
	if store.Same(none, a) || store.Same(a, none) || store.Same(&strange{}, nil) || store.Same(&strange{a, 3}, a) || !store.Same(&strange{a, 2}, a) {
		t.Error("R1: Same of texts of another's making")
	}
}

// TestThroughText works on a store and on a buffer through the interface alone.
func TestThroughText(t *testing.T) {
	s, _ := store.New(api.KindHybrid, 1, 3, 9, "ab")
	b, _ := gap.New("ab", 9)
	for _, x := range []store.Text{s, b} {
		if out, e := x.Replace(1, 1, "cd"); out != "b" || e != api.OK || x.Len() != 3 {
			t.Errorf("P9.9: Replace of %T: %q, %v", x, out, e)
		}
		if _, e := x.Replace(1, 3, ""); e != api.ErrRange {
			t.Errorf("P9.9: Replace of %T: %v", x, e)
		}
		if text, e := x.Slice(0, 3); text != "acd" || e != api.OK {
			t.Errorf("P9.9: Slice of %T: %q, %v", x, text, e)
		}
		if m, e := x.Measure(0, 3); m != metric.Measure("acd") || e != api.OK {
			t.Errorf("P9.9: Measure of %T: %v, %v", x, m, e)
		}
	}
	if s.Backend() != api.KindRope || !store.Same(s, b) {
		t.Error("P9.9: what was done through the interface is not seen in the store")
	}
}

// TestAnswersStay keeps what stores answered while they are worked at, and looks at it in the end.
func TestAnswersStay(t *testing.T) {
	type kept struct{ got, copied string }
	var list []kept
	next := numbers(3)
	for _, kind := range []api.Kind{1, 2, 3} {
		x := newPair(t, kind, 60, 120, 500, strings.Repeat("first ", 20))
		for range 300 {
			n := x.s.Len()
			piece, _ := x.s.Slice(n/4, n/2)
			m, _ := x.s.Measure(n/3, n)
			out, _ := someCall(next, n, 100).onStore(x.s)
			for _, s := range []string{x.s.Text(), piece, m.Head, m.Tail, out} {
				list = append(list, kept{s, string(append([]byte(nil), s...))})
			}
			x.s.Replace(0, x.s.Len(), strings.Repeat(string(rune('a'+next(26))), x.s.Len()))
		}
	}
	for _, k := range list {
		if k.got != k.copied {
			t.Fatalf("R3: what was answered as %.99q is %.99q now", k.copied, k.got)
		}
	}
}

// TestArgumentsAreNotKept writes over the memory of texts that stores were handed.
func TestArgumentsAreNotKept(t *testing.T) {
	for _, kind := range []api.Kind{1, 2, 3} {
		room := []byte("handed in, and more")
		in := unsafe.String(unsafe.SliceData(room), 9)
		var all []*store.Store
		for range 4 {
			s, _ := store.New(kind, 2, 5, 99, in)
			all = append(all, s)
		}
		all[1].Insert(3, in)
		all[2].Replace(0, 9, in)
		all[3].Reset(in)
		if string(room) != "handed in, and more" {
			t.Errorf("R3: what was handed in became %q", room)
		}
		for n := range room {
			room[n] = '#'
		}
		for n, want := range []string{"handed in", "hanhanded inded in", "handed in", "handed in"} {
			if all[n].Text() != want {
				t.Errorf("R3: a text was kept: %q, want %q", all[n].Text(), want)
			}
		}
	}
}

// TestTime has many places and edits of a long text by both backends: a call that went through the whole text would take many minutes in all.
func TestTime(t *testing.T) {
	begun := time.Now()
	for _, kind := range []api.Kind{1, 2} {
		s, _ := store.New(kind, 0, 1, 1<<30, strings.Repeat("a\u0301 line of text\r\n", 1<<18))
		at := s.Len() / 2
		for range 20000 {
			at = s.Next(at)
			s.Insert(at, "x")
			s.Prev(at)
			at = s.Snap(at)
			s.Boundary(at)
		}
		if s.Counts().Edited != 20000 {
			t.Error("P9.3: Edited:", s.Counts())
		}
	}
	// One cluster of many marks is gone through by itself.
	s, _ := store.New(api.KindGap, 0, 1, 1<<30, "x"+strings.Repeat("\u0301", 1<<20)+"y")
	if s.Next(0) != 1+2<<20 || s.Prev(s.Len()-1) != 0 {
		t.Error("P9.2: a long cluster:", s.Next(0), s.Prev(s.Len()-1))
	}
	if d := time.Since(begun); d > time.Minute {
		t.Error("P9.2: places and edits of a long text take", d)
	}
}
