package log_test

import (
	"slices"
	"testing"

	"bodkin/api"
	"bodkin/log"
)

// The chapter's examples, as they stand there.

func TestExamplesOfApply(t *testing.T) {
	for _, c := range []struct {
		deltas []api.Delta
		want   string
		ok     bool
	}{
		{[]api.Delta{{At: 1, Out: "b", In: "XY"}}, "aXYc", true},
		{[]api.Delta{{At: 1, Out: "x", In: ""}}, "", false},
		{[]api.Delta{{At: 3, Out: "", In: "d"}, {At: 0, Out: "ab", In: ""}}, "cd", true},
	} {
		if got, ok := log.Apply("abc", c.deltas...); got != c.want || ok != c.ok {
			t.Errorf("examples: Apply(\"abc\", %+v): %q, %v", c.deltas, got, ok)
		}
	}
	if got := log.Invert(api.Delta{At: 1, Out: "b", In: "XY"}); got != (api.Delta{At: 1, Out: "XY", In: "b"}) {
		t.Errorf("examples: Invert: %+v", got)
	}
}

func TestExamplesOfMerge(t *testing.T) {
	for _, c := range []struct {
		a, b, want api.Delta
		ok         bool
	}{
		{api.Delta{At: 2, Out: "", In: "a"}, api.Delta{At: 3, Out: "", In: "b"}, api.Delta{At: 2, Out: "", In: "ab"}, true},
		{api.Delta{At: 2, Out: "", In: "ab"}, api.Delta{At: 1, Out: "xab", In: "Q"}, api.Delta{At: 1, Out: "x", In: "Q"}, true},
		{api.Delta{At: 2, Out: "o", In: "ab"}, api.Delta{At: 3, Out: "by", In: ""}, api.Delta{At: 2, Out: "oy", In: "a"}, true},
		{api.Delta{At: 2, Out: "", In: "ab"}, api.Delta{At: 2, Out: "", In: "Z"}, api.Delta{At: 2, Out: "", In: "Zab"}, true},
		{api.Delta{At: 2, Out: "", In: "ab"}, api.Delta{At: 5, Out: "", In: "c"}, api.Delta{}, false},
		{api.Delta{At: 2, Out: "", In: "ab"}, api.Delta{At: 3, Out: "x", In: ""}, api.Delta{}, false},
	} {
		if got, ok := log.Merge(c.a, c.b); got != c.want || ok != c.ok {
			t.Errorf("examples: Merge(%+v, %+v): %+v, %v", c.a, c.b, got, ok)
		}
	}
}

// want holds what Undo or Redo answered against the example.
func want(t *testing.T, of string, deltas []api.Delta, n int, e api.Errno, wantDeltas []api.Delta, wantN int, wantE api.Errno) {
	t.Helper()
	if !slices.Equal(deltas, wantDeltas) || n != wantN || e != wantE {
		t.Errorf("examples: %s: %+v, %d, %v", of, deltas, n, e)
	}
}

// holds holds an answer against true.
func holds(t *testing.T, of string, ok bool) {
	t.Helper()
	if !ok {
		t.Errorf("examples: %s", of)
	}
}

func TestExampleOfALog(t *testing.T) {
	l := log.New[int](2)
	holds(t, "the first group", l.Begin(1) && l.Add(api.Delta{At: 0, In: "a"}) && l.Commit(2))
	holds(t, "a group without deltas", l.Begin(3) && !l.Commit(4))
	holds(t, "the second group", l.Begin(5) && l.Add(api.Delta{At: 1, In: "b"}, api.Delta{}) && l.Commit(6) && l.Undos() == 2)
	d, n, e := l.Undo()
	want(t, "Undo of the second", d, n, e, []api.Delta{{At: 1, Out: "b"}}, 5, api.OK)
	d, n, e = l.Undo()
	want(t, "Undo of the first", d, n, e, []api.Delta{{At: 0, Out: "a"}}, 1, api.OK)
	d, n, e = l.Undo()
	want(t, "Undo of none", d, n, e, nil, 0, api.ErrNoUndo)
	d, n, e = l.Redo()
	want(t, "Redo", d, n, e, []api.Delta{{At: 0, In: "a"}}, 2, api.OK)
	holds(t, "Resume where there is one to be done again", !l.Resume())
	holds(t, "the third group", l.Begin(7) && l.Add(api.Delta{At: 1, In: "c"}) && l.Commit(8) && l.Redos() == 0)
	holds(t, "Resume", l.Resume() && l.Undos() == 1 && l.Add(api.Delta{At: 2, In: "d"}))
	back, ok := l.Cancel()
	holds(t, "Cancel", ok && slices.Equal(back, []api.Delta{{At: 2, Out: "d"}}) && l.Undos() == 2)
	d, n, e = l.Undo()
	want(t, "Undo of the third", d, n, e, []api.Delta{{At: 1, Out: "c"}}, 7, api.OK)
}
