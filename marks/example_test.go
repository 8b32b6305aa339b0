package marks_test

import (
	"slices"
	"testing"

	"bodkin/api"
	"bodkin/marks"
)

// The chapter's examples, as they stand there.

func TestExamplesOfMoved(t *testing.T) {
	for _, c := range []struct {
		at     int
		deltas []api.Delta
		want   int
	}{
		{5, []api.Delta{{At: 3, Out: "ab", In: ""}}, 3},
		{4, []api.Delta{{At: 3, Out: "ab", In: "xyz"}}, 3},
		{5, []api.Delta{{At: 3, Out: "ab", In: "xyz"}}, 6},
		{3, []api.Delta{{At: 3, Out: "", In: "x"}}, 3},
		{4, []api.Delta{{At: 3, Out: "", In: "x"}}, 5},
		{9, []api.Delta{{At: 0, Out: "", In: "ab"}, {At: 1, Out: "bcd", In: ""}}, 8},
	} {
		if got := marks.Moved(c.at, c.deltas...); got != c.want {
			t.Errorf("examples: Moved(%d, %v): %d, want %d", c.at, c.deltas, got, c.want)
		}
	}
}

func TestExamplesOfASet(t *testing.T) {
	s := marks.New(api.Mark{Name: 'b', At: 3}, api.Mark{Name: 'A', At: 1}, api.Mark{Name: '@', At: 2}, api.Mark{Name: 'b', At: 4}, api.Mark{Name: 'c', At: -1})
	if got := s.All(); !slices.Equal(got, []api.Mark{{Name: '@', At: 2}, {Name: 'b', At: 4}}) {
		t.Error("examples: All:", got)
	}
	if e := s.Put('B', -1); e != api.ErrKind {
		t.Error("examples: Put('B', -1):", e)
	}
	if e := s.Put('b', -1); e != api.ErrRange {
		t.Error("examples: Put('b', -1):", e)
	}
	if at, e := marks.New().Get('z'); at != 0 || e != api.ErrNoMark {
		t.Error("examples: Get('z') of an empty set:", at, e)
	}
}
