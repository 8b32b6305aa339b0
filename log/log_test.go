package log_test

import (
	"math"
	"runtime"
	"slices"
	"strings"
	"testing"
	"unsafe"
	"weak"

	"bodkin/api"
	"bodkin/log"
)

// call is a call that works on a log.
type call[T any] struct {
	name   string
	beside T
	deltas []api.Delta
}

// answer is what a call answers; what it doesn't tell is zero.
type answer[T any] struct {
	deltas []api.Delta
	beside T
	ok     bool
	e      api.Errno
}

// onLog carries the call out by the package.
func (c call[T]) onLog(l *log.Log[T]) (a answer[T]) {
	switch c.name {
	case "Begin":
		a.ok = l.Begin(c.beside)
	case "Resume":
		a.ok = l.Resume()
	case "Add":
		a.ok = l.Add(c.deltas...)
	case "Commit":
		a.ok = l.Commit(c.beside)
	case "Cancel":
		a.deltas, a.ok = l.Cancel()
	case "Undo":
		a.deltas, a.beside, a.e = l.Undo()
	case "Redo":
		a.deltas, a.beside, a.e = l.Redo()
	case "Clear":
		l.Clear()
	}
	return a
}

// onPlain carries the call out by the chapter's words.
func (c call[T]) onPlain(p *plain[T]) (a answer[T]) {
	switch c.name {
	case "Begin":
		a.ok = p.begin(c.beside)
	case "Resume":
		a.ok = p.resume()
	case "Add":
		a.ok = p.add(c.deltas)
	case "Commit":
		a.ok = p.commit(c.beside)
	case "Cancel":
		a.deltas, a.ok = p.cancel()
	case "Undo":
		a.deltas, a.beside, a.e = p.undone()
	case "Redo":
		a.deltas, a.beside, a.e = p.redone()
	case "Clear":
		p.clear()
	}
	return a
}

// promise tells which promise a call is about.
func promise(name string) string {
	switch name {
	case "Begin":
		return "P12.5"
	case "Resume":
		return "P12.6"
	case "Add":
		return "P12.7"
	case "Commit":
		return "P12.8"
	case "Cancel":
		return "P12.9"
	case "Undo", "Redo":
		return "P12.10"
	case "Clear":
		return "P12.11"
	}
	return "P12.4"
}

// pair is a log, the plain one that is kept beside it, and how two of its T are held against each other.
type pair[T any] struct {
	l    *log.Log[T]
	p    *plain[T]
	same func(a, b T) bool
	// done is what was called, to be told where something is wrong.
	done []string
}

func newPair[T any](t *testing.T, bound int, same func(a, b T) bool) *pair[T] {
	t.Helper()
	x := &pair[T]{l: log.New[T](bound), p: newPlain[T](bound), same: same}
	if x.l == nil {
		t.Fatalf("P12.4: New(%d): nil", bound)
	}
	x.look(t, "New")
	return x
}

// look holds all that the log tells without being changed against the plain one.
func (x *pair[T]) look(t *testing.T, name string) {
	t.Helper()
	l, p := x.l, x.p
	if l.Bound() != p.bound || l.Undos() != len(p.undo) || l.Redos() != len(p.redo) || l.Open() != p.isOpen {
		t.Fatalf("%s: behind %v: bound %d, %d to undo, %d to do again, open %v, want %d, %d, %d, %v", promise(name), x.done, l.Bound(), l.Undos(), l.Redos(), l.Open(), p.bound, len(p.undo), len(p.redo), p.isOpen)
	}
}

// do carries the call out on both, and holds what they answer and become against each other.
func (x *pair[T]) do(t *testing.T, c call[T]) api.Errno {
	t.Helper()
	x.done = append(x.done, c.name)
	got, want := c.onLog(x.l), c.onPlain(x.p)
	if !slices.Equal(got.deltas, want.deltas) || got.ok != want.ok || got.e != want.e || !x.same(got.beside, want.beside) {
		t.Fatalf("%s: behind %v: %+v, want %+v", promise(c.name), x.done, got, want)
	}
	x.look(t, c.name)
	return got.e
}

// tellAll undoes and does again all that there is, so that each group is seen whole.
func (x *pair[T]) tellAll(t *testing.T) {
	t.Helper()
	x.do(t, call[T]{name: "Cancel"})
	for x.do(t, call[T]{name: "Redo"}) == api.OK {
	}
	for x.do(t, call[T]{name: "Undo"}) == api.OK {
	}
	for x.do(t, call[T]{name: "Redo"}) == api.OK {
	}
}

func sameInt(a, b int) bool { return a == b }

// everyCall lists the calls in all their ways, with numbers of their own.
func everyCall(n int) []call[int] {
	d, other := api.Delta{At: n, In: "a"}, api.Delta{At: n, Out: "b", In: "cd"}
	return []call[int]{
		{name: "Begin", beside: 10*n + 1},
		{name: "Resume"},
		{name: "Add", deltas: []api.Delta{d}},
		{name: "Add", deltas: []api.Delta{{}, other, {At: n}, d, {At: -1}}},
		{name: "Add", deltas: []api.Delta{{At: 5}}},
		{name: "Commit", beside: 10*n + 2},
		{name: "Cancel"},
		{name: "Undo"},
		{name: "Redo"},
		{name: "Clear"},
	}
}

// startingCalls lists what may have been done ahead of a run: nothing, groups, groups undone in part and whole, a group begun and one resumed.
func startingCalls() map[string][]call[int] {
	group := func(n int) []call[int] {
		return []call[int]{{name: "Begin", beside: n}, {name: "Add", deltas: []api.Delta{{At: n, In: "x"}, {At: n, Out: "y"}}}, {name: "Commit", beside: n + 1}}
	}
	two := append(group(100), group(200)...)
	undo := call[int]{name: "Undo"}
	return map[string][]call[int]{
		"nothing":      nil,
		"one group":    group(100),
		"two groups":   two,
		"one undone":   append(slices.Clone(two), undo),
		"all undone":   append(slices.Clone(two), undo, undo),
		"a begun one":  append(slices.Clone(two), call[int]{name: "Begin", beside: 300}, call[int]{name: "Add", deltas: []api.Delta{{At: 3, In: "z"}}}),
		"begun, empty": append(slices.Clone(two), undo, call[int]{name: "Begin", beside: 300}),
		"a resumed":    append(slices.Clone(two), call[int]{name: "Resume"}, call[int]{name: "Add", deltas: []api.Delta{{At: 3, In: "z"}}}),
	}
}

// TestEveryRun has every run of four calls behind every beginning, at every low bound.
func TestEveryRun(t *testing.T) {
	many := len(everyCall(0))
	for _, start := range startingCalls() {
		for _, bound := range []int{0, 1, 2, 3} {
			for run := range many * many * many * many {
				x := newPair(t, bound, sameInt)
				for _, c := range start {
					x.do(t, c)
				}
				for n := range 4 {
					x.do(t, everyCall(n)[run%many])
					run /= many
				}
				x.tellAll(t)
			}
		}
	}
}

// manyCalls has long runs of mixed calls on a log of any type; beside answers the T number n.
func manyCalls[T any](t *testing.T, beside func(n int) T, same func(a, b T) bool) {
	t.Helper()
	for seed, bound := range []int{-1, 0, 1, 2, 3, 7, 50, 1000, 2000} {
		next := numbers(uint64(seed))
		x := newPair(t, bound, same)
		for n := range 3000 {
			c := call[T]{name: []string{"Begin", "Begin", "Add", "Add", "Add", "Commit", "Commit", "Resume", "Cancel", "Undo", "Undo", "Redo"}[next(12)], beside: beside(n)}
			if next(300) == 0 {
				c.name = "Clear"
			}
			for range next(4) {
				c.deltas = append(c.deltas, api.Delta{At: n, Out: strings.Repeat("o", next(3)), In: strings.Repeat("i", next(3))})
			}
			x.do(t, c)
			if next(200) == 0 {
				x.tellAll(t)
			}
			x.done = x.done[max(len(x.done)-20, 0):]
		}
		x.tellAll(t)
	}
}

func TestManyCalls(t *testing.T) {
	type pairOf struct {
		name string
		at   [3]int
	}
	manyCalls(t, func(n int) int { return n + 1 }, sameInt)
	manyCalls(t, func(n int) string { return strings.Repeat("s", n%50) }, func(a, b string) bool { return a == b })
	manyCalls(t, func(n int) bool { return n%2 == 0 }, func(a, b bool) bool { return a == b })
	manyCalls(t, func(n int) struct{} { return struct{}{} }, func(a, b struct{}) bool { return true })
	manyCalls(t, func(n int) pairOf { return pairOf{"p", [3]int{n, n, 1}} }, func(a, b pairOf) bool { return a == b })
	manyCalls(t, func(n int) *int { return &n }, func(a, b *int) bool { return a == b })
	manyCalls(t, func(n int) any { return []any{n, "s", nil, 1.5}[n%4] }, func(a, b any) bool { return a == b })
	manyCalls(t, func(n int) []int { return make([]int, 1, 9) }, func(a, b []int) bool {
		return unsafe.SliceData(a) == unsafe.SliceData(b) && len(a) == len(b) && cap(a) == cap(b)
	})
	manyCalls(t, func(n int) func() int { return func() int { return n + 1 } }, func(a, b func() int) bool { return (a == nil) == (b == nil) && (a == nil || a() == b()) })
	manyCalls(t, func(n int) *log.Log[int] { return log.New[int](n) }, func(a, b *log.Log[int]) bool { return a == b })
}

// grouped lays a group with one delta into a log.
func grouped(l *log.Log[int], ahead, behind int, in string) bool {
	return l.Begin(ahead) && l.Add(api.Delta{At: ahead, In: in}) && l.Commit(behind)
}

func TestBounds(t *testing.T) {
	for _, c := range []struct{ of, want int }{
		{math.MinInt, 0}, {-1 << 32, 0}, {-2, 0}, {-1, 0}, {0, 0}, {1, 1}, {2, 2}, {17, 17}, {999, 999},
		{1000, 1000}, {1001, 1000}, {5000, 1000}, {1 << 32, 1000}, {math.MaxInt, 1000},
	} {
		l := log.New[int](c.of)
		if l == nil || l.Bound() != c.want || l.Undos() != 0 || l.Redos() != 0 || l.Open() {
			t.Fatalf("P12.4: New(%d): bound %d, %d, %d, %v", c.of, l.Bound(), l.Undos(), l.Redos(), l.Open())
		}
		for n := range c.want + 3 {
			if ok := grouped(l, n, -n, "x"); ok != (c.want > 0) {
				t.Fatalf("P12.8: group %d, bound %d: %v", n, c.want, ok)
			}
			if l.Undos() != min(n+1, c.want) {
				t.Fatalf("P12.8: behind group %d, bound %d: %d", n, c.want, l.Undos())
			}
		}
		// The oldest three are gone, and no others.
		for n := c.want + 2; n >= 3; n-- {
			if d, at, e := l.Undo(); at != n || e != api.OK || !slices.Equal(d, []api.Delta{{At: n, Out: "x"}}) {
				t.Fatalf("P12.8: bound %d, undoing group %d: %v, %d, %v", c.want, n, d, at, e)
			}
		}
		if _, _, e := l.Undo(); e != api.ErrNoUndo || l.Redos() != c.want {
			t.Fatalf("P12.8: bound %d, the oldest: %v, %d", c.want, e, l.Redos())
		}
		for n := range c.want {
			if _, at, e := l.Redo(); at != -(n+3) || e != api.OK {
				t.Fatalf("P12.10: bound %d, doing group %d again: %d, %v", c.want, n+3, at, e)
			}
		}
		if l.Bound() != c.want || l.Undos() != c.want || l.Redos() != 0 {
			t.Errorf("P12.10: bound %d: %d, %d, %d", c.want, l.Bound(), l.Undos(), l.Redos())
		}
	}
}

// told is what a log tells without being changed.
type told struct {
	undos, redos int
	open         bool
}

func tell(l *log.Log[int]) told { return told{l.Undos(), l.Redos(), l.Open()} }

func hold(t *testing.T, promise string, l *log.Log[int], want told) {
	t.Helper()
	if got := tell(l); got != want {
		t.Errorf("%s: %+v, want %+v", promise, got, want)
	}
}

// TestWhileOpen: only one group is open at a time, and while it is, nothing is undone, done again or resumed.
func TestWhileOpen(t *testing.T) {
	l := log.New[int](5)
	grouped(l, 1, 2, "a")
	grouped(l, 3, 4, "b")
	l.Undo()
	if !l.Begin(5) {
		t.Fatal("P12.5: Begin")
	}
	hold(t, "P12.5", l, told{1, 1, true})
	if l.Begin(6) || l.Resume() {
		t.Error("P12.5: a second group was opened")
	}
	if d, n, e := l.Undo(); len(d) != 0 || n != 0 || e != api.ErrNoUndo {
		t.Error("P12.10: Undo while a group is open:", d, n, e)
	}
	if d, n, e := l.Redo(); len(d) != 0 || n != 0 || e != api.ErrNoRedo {
		t.Error("P12.10: Redo while a group is open:", d, n, e)
	}
	hold(t, "P12.10", l, told{1, 1, true})
	l.Add(api.Delta{In: "c"})
	if !l.Commit(7) {
		t.Error("P12.8: Commit")
	}
	hold(t, "P12.8", l, told{2, 0, false})
	if _, n, e := l.Undo(); n != 5 || e != api.OK {
		t.Error("P12.5: a Begin that was refused changed what is beside the group:", n, e)
	}
	if _, n, e := l.Redo(); n != 7 || e != api.OK {
		t.Error("P12.8: what is beside the group behind:", n, e)
	}
}

func TestWhileNoneIsOpen(t *testing.T) {
	for _, l := range []*log.Log[int]{log.New[int](5), log.New[int](0), {}} {
		if l.Resume() || l.Add(api.Delta{In: "a"}) || l.Add() || l.Commit(1) {
			t.Error("P12.6, P12.7, P12.8: true without an open group")
		}
		if d, ok := l.Cancel(); len(d) != 0 || ok {
			t.Error("P12.9: Cancel without an open group:", d, ok)
		}
		hold(t, "P12.8", l, told{})
		l.Begin(1)
		l.Add(api.Delta{In: "a"})
		l.Commit(2)
		before := tell(l)
		if l.Add(api.Delta{In: "b"}) || l.Commit(3) {
			t.Error("P12.7, P12.8: true behind Commit")
		}
		if d, ok := l.Cancel(); len(d) != 0 || ok {
			t.Error("P12.9: Cancel behind Commit:", d, ok)
		}
		hold(t, "P12.8", l, before)
	}
}

// TestGroupsWithoutDeltas: a group without deltas is gone, and what could be done again stays.
func TestGroupsWithoutDeltas(t *testing.T) {
	for _, deltas := range [][]api.Delta{nil, {}, {{}}, {{At: 3}, {At: -1}, {At: math.MaxInt}, {At: math.MinInt}}} {
		for _, bound := range []int{0, 1, 2, 5} {
			l := log.New[int](bound)
			grouped(l, 1, 2, "a")
			grouped(l, 3, 4, "b")
			l.Undo()
			before := tell(l)
			if !l.Begin(5) || !l.Add(deltas...) || l.Commit(6) {
				t.Errorf("P12.8: a group of %v, bound %d", deltas, bound)
			}
			hold(t, "P12.8", l, before)
			if d, n, e := l.Redo(); bound > 0 && (n != 4 || e != api.OK || !slices.Equal(d, []api.Delta{{At: 3, In: "b"}})) {
				t.Error("P12.8: what could be done again has changed:", d, n, e)
			}
		}
	}
}

// TestAdd: deltas are laid in their order, without the empty ones; they need not fit one another.
func TestAdd(t *testing.T) {
	l := log.New[int](5)
	l.Begin(1)
	wild := []api.Delta{{At: math.MinInt, In: "a"}, {At: math.MaxInt, Out: "b"}, {At: -1, Out: "c", In: "c"}}
	if !l.Add() || !l.Add(api.Delta{At: 2}) || !l.Add(wild[0], api.Delta{}, wild[1]) || !l.Add(wild[2]) || !l.Commit(2) {
		t.Fatal("P12.7: Add")
	}
	if d, n, e := l.Undo(); !slices.Equal(d, back(wild)) || n != 1 || e != api.OK {
		t.Error("P12.7: Undo:", d, n, e)
	}
	if d, n, e := l.Redo(); !slices.Equal(d, wild) || n != 2 || e != api.OK {
		t.Error("P12.7: Redo:", d, n, e)
	}
}

func TestResume(t *testing.T) {
	l := log.New[int](2)
	grouped(l, 1, 2, "a")
	grouped(l, 3, 4, "b")
	l.Undo()
	if l.Resume() || tell(l) != (told{1, 1, false}) {
		t.Error("P12.6: resumed where one can be done again:", tell(l))
	}
	l.Redo()
	if !l.Resume() || l.Resume() || l.Begin(9) || tell(l) != (told{1, 0, true}) {
		t.Error("P12.6: Resume:", tell(l))
	}
	if !l.Add(api.Delta{At: 9, Out: "x"}) || !l.Commit(5) || tell(l) != (told{2, 0, false}) {
		t.Error("P12.6: Commit of a resumed group:", tell(l))
	}
	if d, n, e := l.Undo(); n != 3 || e != api.OK || !slices.Equal(d, []api.Delta{{At: 9, In: "x"}, {At: 3, Out: "b"}}) {
		t.Error("P12.6: Undo of a resumed group:", d, n, e)
	}
	if d, n, e := l.Redo(); n != 5 || e != api.OK || !slices.Equal(d, []api.Delta{{At: 3, In: "b"}, {At: 9, Out: "x"}}) {
		t.Error("P12.8: Redo of a resumed group:", d, n, e)
	}
	// Nothing is added, but what is beside it behind changes.
	if !l.Resume() || !l.Commit(6) {
		t.Error("P12.8: Commit of a resumed group to which nothing was added")
	}
	l.Undo()
	if d, n, e := l.Redo(); n != 6 || e != api.OK || len(d) != 2 {
		t.Error("P12.8: Redo of a group resumed twice:", d, n, e)
	}
	none := log.New[int](0)
	if grouped(none, 1, 2, "a") || none.Resume() || none.Commit(3) || tell(none) != (told{}) {
		t.Error("P12.8: a group is kept with the bound 0:", tell(none))
	}
}

func TestCancel(t *testing.T) {
	l := log.New[int](3)
	grouped(l, 1, 2, "a")
	grouped(l, 3, 4, "b")
	l.Undo()
	l.Begin(5)
	if d, ok := l.Cancel(); len(d) != 0 || !ok || tell(l) != (told{1, 1, false}) {
		t.Error("P12.9: Cancel of a group without deltas:", d, ok, tell(l))
	}
	l.Begin(5)
	l.Add(api.Delta{At: 1, Out: "x", In: "yz"}, api.Delta{}, api.Delta{At: 2, In: "q"})
	if d, ok := l.Cancel(); !ok || !slices.Equal(d, []api.Delta{{At: 2, Out: "q"}, {At: 1, Out: "yz", In: "x"}}) || tell(l) != (told{1, 1, false}) {
		t.Error("P12.9: Cancel of a group that was begun:", d, ok, tell(l))
	}
	l.Redo()
	l.Resume()
	if d, ok := l.Cancel(); len(d) != 0 || !ok || tell(l) != (told{2, 0, false}) {
		t.Error("P12.9: Cancel of a resumed group to which nothing was added:", d, ok, tell(l))
	}
	l.Resume()
	l.Add(api.Delta{At: 7, In: "r"})
	l.Add(api.Delta{At: 8, In: "s"})
	if d, ok := l.Cancel(); !ok || !slices.Equal(d, []api.Delta{{At: 8, Out: "s"}, {At: 7, Out: "r"}}) || tell(l) != (told{2, 0, false}) {
		t.Error("P12.9: Cancel of a resumed group:", d, ok, tell(l))
	}
	if d, n, e := l.Undo(); n != 3 || e != api.OK || !slices.Equal(d, []api.Delta{{At: 3, Out: "b"}}) {
		t.Error("P12.9: a resumed group is not as it was:", d, n, e)
	}
	if d, n, e := l.Redo(); n != 4 || e != api.OK || !slices.Equal(d, []api.Delta{{At: 3, In: "b"}}) {
		t.Error("P12.9: a resumed group is not as it was:", d, n, e)
	}
	// A group that is begun behind a resumed one is gone, too.
	l.Begin(6)
	l.Add(api.Delta{In: "t"})
	if d, ok := l.Cancel(); len(d) != 1 || !ok || tell(l) != (told{2, 0, false}) {
		t.Error("P12.9: Cancel of a group that was begun behind a resumed one:", d, ok, tell(l))
	}
}

func TestNothingToUndo(t *testing.T) {
	for _, l := range []*log.Log[int]{log.New[int](3), log.New[int](0), {}, nil} {
		for range 2 {
			if d, n, e := l.Undo(); len(d) != 0 || n != 0 || e != api.ErrNoUndo {
				t.Error("P12.10: Undo:", d, n, e)
			}
			if d, n, e := l.Redo(); len(d) != 0 || n != 0 || e != api.ErrNoRedo {
				t.Error("P12.10: Redo:", d, n, e)
			}
		}
		hold(t, "P12.10", l, told{})
	}
}

func TestClear(t *testing.T) {
	for name, start := range startingCalls() {
		x := newPair(t, 3, sameInt)
		for _, c := range start {
			x.do(t, c)
		}
		x.l.Clear()
		if tell(x.l) != (told{}) || x.l.Bound() != 3 {
			t.Errorf("P12.11: behind %s: %+v, bound %d", name, tell(x.l), x.l.Bound())
		}
		if _, ok := x.l.Cancel(); ok || x.l.Commit(1) || x.l.Resume() {
			t.Errorf("P12.11: behind %s: something is left", name)
		}
		if !grouped(x.l, 1, 2, "a") || tell(x.l) != (told{1, 0, false}) {
			t.Errorf("P12.11: behind %s: no group can be made: %+v", name, tell(x.l))
		}
	}
}

// TestZeroAndNil has every call on the zero Log and on nil, in every order of three.
func TestZeroAndNil(t *testing.T) {
	every := everyCall(1)
	for _, first := range every {
		for _, second := range every {
			for _, third := range every {
				for _, x := range []*pair[int]{
					{l: &log.Log[int]{}, p: newPlain[int](0), same: sameInt},
					{l: nil, p: &plain[int]{keepsNone: true}, same: sameInt},
				} {
					x.look(t, "New")
					x.do(t, first)
					x.do(t, second)
					x.do(t, third)
					x.tellAll(t)
				}
			}
		}
	}
}

func TestNilWrittenDown(t *testing.T) {
	var l *log.Log[string]
	if l.Begin("a") || l.Resume() || l.Add() || l.Add(api.Delta{In: "a"}) || l.Commit("b") || l.Open() {
		t.Error("P12.13: nil answers true")
	}
	if d, ok := l.Cancel(); len(d) != 0 || ok {
		t.Error("P12.13: Cancel of nil:", d, ok)
	}
	if d, s, e := l.Undo(); len(d) != 0 || s != "" || e != api.ErrNoUndo {
		t.Error("P12.13: Undo of nil:", d, s, e)
	}
	if d, s, e := l.Redo(); len(d) != 0 || s != "" || e != api.ErrNoRedo {
		t.Error("P12.13: Redo of nil:", d, s, e)
	}
	l.Clear()
	if l.Bound() != 0 || l.Undos() != 0 || l.Redos() != 0 {
		t.Error("P12.13: nil has groups:", l.Bound(), l.Undos(), l.Redos())
	}
	var zero log.Log[string]
	if zero.Bound() != 0 || !zero.Begin("a") || !zero.Open() || !zero.Add(api.Delta{In: "a"}) || zero.Commit("b") || zero.Undos() != 0 {
		t.Error("P12.13: the zero Log")
	}
}

// writing is a text that is edited by way of a log; the T beside a group is the text itself.
type writing struct {
	l     *log.Log[string]
	text  string
	texts []string // as they were between the groups
}

// change lays some deltas into the open group, and does them.
func (w *writing) change(next func(int) int) {
	for range next(5) {
		d := someDelta(next, w.text)
		w.text, _ = applied(w.text, []api.Delta{d})
		w.l.Add(d, api.Delta{At: next(5)})
	}
}

// group makes a group, goes on with the newest one, or breaks one off.
func (w *writing) group(t *testing.T, next func(int) int) {
	t.Helper()
	before, resumed := w.text, next(4) == 0 && w.l.Resume()
	if !resumed {
		w.l.Begin(w.text)
	}
	w.change(next)
	if next(4) == 0 {
		d, ok := w.l.Cancel()
		if w.text, ok = log.Apply(w.text, d...); !ok || w.text != before {
			t.Fatalf("P12.9: a group that is broken off leaves %q, %v, want %q", w.text, ok, before)
		}
		return
	}
	kept := w.l.Commit(w.text)
	switch {
	case resumed:
		w.texts[len(w.texts)-1] = w.text
	case kept:
		w.texts = append(w.texts, w.text)
	default:
		// A group without deltas, or the bound 0: from here on the text counts as it is.
		w.texts[len(w.texts)-1] = w.text
	}
	w.texts = w.texts[len(w.texts)-1-w.l.Undos():]
}

// undo undoes the newest group, and holds the text against the one ahead of it.
func (w *writing) undo(t *testing.T, want string) {
	t.Helper()
	d, beside, e := w.l.Undo()
	text, ok := log.Apply(w.text, d...)
	if e != api.OK || !ok || text != want || beside != want {
		t.Fatalf("P12.12: undone: %q, %v, %v, beside it %q, want %q", text, ok, e, beside, want)
	}
	w.text = text
}

// redo does the next group again, and holds the text against the one behind it.
func (w *writing) redo(t *testing.T, want string) {
	t.Helper()
	d, beside, e := w.l.Redo()
	text, ok := log.Apply(w.text, d...)
	if e != api.OK || !ok || text != want || beside != want {
		t.Fatalf("P12.12: done again: %q, %v, %v, beside it %q, want %q", text, ok, e, beside, want)
	}
	w.text = text
}

// throughAll undoes all groups and does them again.
func (w *writing) throughAll(t *testing.T) {
	t.Helper()
	last := len(w.texts) - 1
	for n := last - 1; n >= 0; n-- {
		w.undo(t, w.texts[n])
	}
	if _, _, e := w.l.Undo(); e != api.ErrNoUndo {
		t.Fatal("P12.12: one more than the groups could be undone:", e)
	}
	for n := 1; n <= last; n++ {
		w.redo(t, w.texts[n])
	}
	if _, _, e := w.l.Redo(); e != api.ErrNoRedo {
		t.Fatal("P12.12: one more than the groups could be done again:", e)
	}
}

// TestUndoingAll: undoing all groups and doing all again gives back every text that there was between them; so it does behind others that were made where some had been undone.
func TestUndoingAll(t *testing.T) {
	for seed := range 60 {
		next := numbers(uint64(seed))
		text := strings.Repeat("a line\r\n", next(20))
		w := &writing{l: log.New[string]([]int{0, 1, 2, 5, 100, 1000}[seed%6]), text: text, texts: []string{text}}
		for range 40 {
			for range 1 + next(6) {
				w.group(t, next)
			}
			w.throughAll(t)
			// Some are undone for good: the next group takes their place.
			for len(w.texts) > 1 && next(3) > 0 {
				w.texts = w.texts[:len(w.texts)-1]
				w.undo(t, w.texts[len(w.texts)-1])
			}
			for w.l.Redos() > 0 {
				d := api.Delta{In: "+"}
				before := w.text
				w.text, _ = applied(w.text, []api.Delta{d})
				if !w.l.Begin(before) || !w.l.Add(d) || !w.l.Commit(w.text) || w.l.Redos() != 0 {
					t.Fatal("P12.8: a group behind one that was undone")
				}
				w.texts = append(w.texts, w.text)
			}
		}
		w.throughAll(t)
	}
}

// overwrite writes over a list, its spare room too.
func overwrite(list []api.Delta) {
	list = list[:cap(list)]
	for i := range list {
		list[i] = api.Delta{At: 77, Out: "#", In: "##"}
	}
}

// TestAnswersMayBeWrittenOver: the log stays as it is.
func TestAnswersMayBeWrittenOver(t *testing.T) {
	deltas := []api.Delta{{At: 1, In: "a"}, {At: 2, Out: "b", In: "c"}, {At: 3, Out: "d"}}
	for range 3 {
		l := log.New[int](3)
		l.Begin(1)
		l.Add(deltas...)
		l.Commit(2)
		for range 3 {
			d, _, _ := l.Undo()
			if !slices.Equal(d, back(deltas)) {
				t.Error("P12.13: Undo:", d)
			}
			overwrite(d)
			d, _, _ = l.Redo()
			if !slices.Equal(d, deltas) {
				t.Error("P12.13: Redo:", d)
			}
			overwrite(d)
			l.Resume()
			l.Add(api.Delta{At: 9, In: "x"})
			d, _ = l.Cancel()
			if !slices.Equal(d, []api.Delta{{At: 9, Out: "x"}}) {
				t.Error("P12.13: Cancel:", d)
			}
			overwrite(d)
		}
	}
}

// TestAnswersStay: what was answered is not changed by later calls.
func TestAnswersStay(t *testing.T) {
	l := log.New[int](2)
	l.Begin(1)
	l.Add(api.Delta{At: 1, In: "a"}, api.Delta{At: 2, In: "b"})
	l.Commit(2)
	undone, _, _ := l.Undo()
	redone, _, _ := l.Redo()
	l.Resume()
	l.Add(api.Delta{At: 3, In: "c"}, api.Delta{At: 4, In: "d"})
	cancelled, _ := l.Cancel()
	l.Resume()
	l.Add(api.Delta{At: 5, In: "e"}, api.Delta{At: 6, In: "f"})
	l.Commit(3)
	l.Undo()
	l.Clear()
	grouped(l, 1, 2, "g")
	if !slices.Equal(undone, []api.Delta{{At: 2, Out: "b"}, {At: 1, Out: "a"}}) || !slices.Equal(redone, []api.Delta{{At: 1, In: "a"}, {At: 2, In: "b"}}) || !slices.Equal(cancelled, []api.Delta{{At: 4, Out: "d"}, {At: 3, Out: "c"}}) {
		t.Error("P12.13: answers have changed:", undone, redone, cancelled)
	}
}

// TestArgumentsAreNotKept writes over the deltas that a log was handed, and over the memory of their texts.
func TestArgumentsAreNotKept(t *testing.T) {
	room := []byte("handed in, and more")
	in := unsafe.String(unsafe.SliceData(room), 9)
	deltas := []api.Delta{{At: 1, In: in}, {}, {At: 2, Out: in}, {At: 3, In: "spare"}}
	kept := slices.Clone(deltas)
	l := log.New[int](3)
	l.Begin(1)
	l.Add(deltas[:3]...)
	l.Commit(2)
	l.Resume()
	l.Add(deltas[:1]...)
	l.Commit(3)
	if !slices.Equal(deltas, kept) || string(room) != "handed in, and more" {
		t.Errorf("R3: what was handed in has changed: %v, %q", deltas, room)
	}
	overwrite(deltas)
	for i := range room {
		room[i] = '#'
	}
	if d, _, _ := l.Undo(); !slices.Equal(d, []api.Delta{{At: 1, Out: "handed in"}, {At: 2, In: "handed in"}, {At: 1, Out: "handed in"}}) {
		t.Error("R3: deltas that were handed in are kept:", d)
	}
	if d, _, _ := l.Redo(); !slices.Equal(d, []api.Delta{{At: 1, In: "handed in"}, {At: 2, Out: "handed in"}, {At: 1, In: "handed in"}}) {
		t.Error("R3: deltas that were handed in are kept:", d)
	}
}

// TestTextsOfAnswers: the texts of two answers, and of what was handed in, share no memory.
func TestTextsOfAnswers(t *testing.T) {
	long := strings.Repeat("long ", 9)
	l := log.New[int](3)
	l.Begin(1)
	l.Add(api.Delta{In: long}, api.Delta{Out: long})
	l.Commit(2)
	texts := []string{long}
	for range 2 {
		d, _, _ := l.Undo()
		texts = append(texts, d[0].In, d[1].Out)
		d, _, _ = l.Redo()
		texts = append(texts, d[0].In, d[1].Out)
	}
	for i, one := range texts {
		for j, other := range texts {
			if one != long || i != j && within(one, other) {
				t.Errorf("R3: the texts %d and %d: %q, %q, shared %v", i, j, one, other, within(one, other))
			}
		}
	}
}

// TestBesideIsHandedOutAsItIs: where T is a list, it is that very list.
func TestBesideIsHandedOutAsItIs(t *testing.T) {
	ahead, behind := []int{1, 2}, []int{3}
	l := log.New[[]int](2)
	l.Begin(ahead)
	l.Add(api.Delta{In: "a"})
	l.Commit(behind)
	ahead[0], behind[0] = 7, 8
	_, got, _ := l.Undo()
	if &got[0] != &ahead[0] || len(got) != 2 {
		t.Error("P12.13: not the list that was handed in ahead:", got)
	}
	got[1] = 9
	if _, again, _ := l.Redo(); &again[0] != &behind[0] || again[0] != 8 {
		t.Error("P12.13: not the list that was handed in behind:", again)
	}
	if _, again, _ := l.Undo(); again[1] != 9 {
		t.Error("P12.13: not the same list a second time:", again)
	}
	l.Redo()
	other := []int{5}
	l.Resume()
	l.Commit(other)
	l.Undo()
	if _, again, _ := l.Redo(); &again[0] != &other[0] {
		t.Error("P12.8: not the list that was handed in last:", again)
	}
}

// block is something big enough that it lies in memory by itself.
type block [100]int

// TestNothingElseIsKept: what is beside groups that are gone can be forgotten.
func TestNothingElseIsKept(t *testing.T) {
	l := log.New[*block](2)
	var gone []weak.Pointer[block]
	fresh := func(forget bool) *block {
		b := &block{}
		if forget {
			gone = append(gone, weak.Make(b))
		}
		return b
	}
	group := func(forget bool) {
		l.Begin(fresh(forget))
		l.Add(api.Delta{In: "a"})
		l.Commit(fresh(forget))
	}
	// The first two are dropped by the bound, the others by a group behind their undoing.
	group(true)
	group(true)
	group(true)
	group(true)
	l.Undo()
	l.Undo()
	group(false)
	// One broken off, one without deltas, and what a resumed group had behind.
	l.Begin(fresh(true))
	l.Add(api.Delta{In: "a"})
	l.Cancel()
	l.Begin(fresh(true))
	l.Commit(fresh(true))
	l.Resume()
	l.Commit(fresh(true))
	l.Resume()
	l.Commit(fresh(false))
	runtime.GC()
	for n, p := range gone {
		if p.Value() != nil {
			t.Errorf("LANGUAGE.md's rule 8: the block %d of %d is still kept", n, len(gone))
		}
	}
	if l.Undos() != 1 {
		t.Error("P12.8:", l.Undos())
	}
	runtime.KeepAlive(l)
}
