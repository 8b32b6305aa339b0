package move_test

import (
	"math"
	"slices"
	"strings"
	"testing"

	"bodkin/api"
	"bodkin/move"
	"bodkin/store"
)

// This file has the edges that the chapter names, each with its answer written down.

// trip is a Go, and what it answers.
type trip struct {
	kind            api.CommandKind
	at, goal, count int
	want            answer
}

// lookAtTrips holds Gos in a text against what is written down, by every keeper.
func lookAtTrips(t *testing.T, text string, trips ...trip) {
	t.Helper()
	for _, k := range keepers(t, text) {
		for _, x := range trips {
			to, next, e := move.Go(k.store, x.kind, x.at, x.goal, x.count)
			if got := (answer{to, next, e}); got != x.want {
				t.Errorf("P16.2: Go(%d, %d, %d, %d) of %.99q by %s: %v, want %v", x.kind, x.at, x.goal, x.count, text, k.name, got, x.want)
			}
		}
	}
}

// led is the answer of a motion that goes by no goal.
func led(to int) answer { return answer{to, -1, api.OK} }

// by is the answer of a motion that goes by a goal.
func by(to, goal int) answer { return answer{to, goal, api.OK} }

// edge is the answer where no step can be done.
func edge(at, goal int) answer { return answer{at, goal, api.ErrEdge} }

// noMotions are kinds that are no motion.
func noMotions() []api.CommandKind {
	list := []api.CommandKind{math.MinInt, -256 + api.DoLeft, -4, -1, 41, 42, 99, 256 + api.DoLeft, 1<<32 + api.DoLeft, math.MaxInt}
	for kind := api.DoNothing; kind <= api.DoUnbound; kind++ {
		if !slices.Contains(theMotions, kind) {
			list = append(list, kind)
		}
	}
	return list
}

func TestKinds(t *testing.T) {
	for _, kind := range []api.CommandKind{api.DoLeft, api.DoRight, api.DoWordLeft, api.DoWordRight, api.DoLineStart, api.DoLineEnd, api.DoUp, api.DoDown, api.DoTextStart, api.DoTextEnd} {
		if !move.Motion(kind) {
			t.Errorf("P16.1: Motion(%d) is false", kind)
		}
	}
	for _, kind := range noMotions() {
		if move.Motion(kind) {
			t.Errorf("P16.1: Motion(%d) is true", kind)
		}
	}
}

// TestNoMotions has all that may stand beside a kind that is no motion: the answer is the same.
func TestNoMotions(t *testing.T) {
	list := append(keepers(t, "ab\ncd"), keepers(t, "")...)
	list = append(list, keeper{"nil", nil})
	for _, k := range list {
		for _, kind := range noMotions() {
			for _, n := range []int{math.MinInt, -1, 0, 1, 4, 9, math.MaxInt} {
				to, next, e := move.Go(k.store, kind, n, n, n)
				if to != 0 || next != -1 || e != api.ErrKind {
					t.Errorf("P16.2: Go(%d, %d) by %s: %d, %d, %v", kind, n, k.name, to, next, e)
				}
				if span, e := move.Span(k.store, kind, n, n); span != (api.Span{}) || e != api.ErrKind {
					t.Errorf("P16.3: Span(%d, %d) by %s: %v, %v", kind, n, k.name, span, e)
				}
			}
		}
	}
}

// TestPlacesThatCount has places below 0, inside of clusters and of CR LF, at the length and above it.
func TestPlacesThatCount(t *testing.T) {
	// The letter with its mark from 0 to 3, CR LF from 3 to 5, the wide one from 5 to 8, x from 8 to 9.
	lookAtTrips(t, "e\u0301\r\n\u4e00x",
		trip{api.DoRight, -1, -1, 1, led(3)}, trip{api.DoRight, math.MinInt, -1, 1, led(3)}, trip{api.DoLeft, -1, -1, 1, edge(0, -1)},
		trip{api.DoRight, 1, -1, 1, led(5)}, trip{api.DoLeft, 1, -1, 1, led(0)}, trip{api.DoLeft, 2, -1, 1, led(0)},
		trip{api.DoRight, 4, -1, 1, led(8)}, trip{api.DoLeft, 4, -1, 1, led(3)}, trip{api.DoLineStart, 4, -1, 1, led(5)}, trip{api.DoLineEnd, 4, -1, 1, led(9)},
		trip{api.DoLineStart, 3, -1, 1, led(0)}, trip{api.DoLineEnd, 3, -1, 1, led(3)}, trip{api.DoLineEnd, 2, -1, 1, led(3)},
		trip{api.DoUp, 4, -1, 1, by(0, 0)}, trip{api.DoDown, 4, -1, 1, edge(5, -1)}, trip{api.DoDown, 4, 3, 1, edge(5, 3)},
		trip{api.DoUp, 6, -1, 1, by(3, 2)}, trip{api.DoDown, 2, -1, 1, by(5, 1)},
		trip{api.DoLeft, 9, -1, 1, led(8)}, trip{api.DoLeft, 10, -1, 1, led(8)}, trip{api.DoLeft, math.MaxInt, -1, 1, led(8)},
		trip{api.DoRight, 9, -1, 1, edge(9, -1)}, trip{api.DoRight, 10, -1, 1, edge(9, -1)}, trip{api.DoWordRight, math.MaxInt, 5, 1, edge(9, 5)},
		trip{api.DoWordLeft, 7, -1, 1, led(5)}, trip{api.DoWordLeft, 5, -1, 1, led(0)}, trip{api.DoWordRight, 1, -1, 1, led(9)}, trip{api.DoWordRight, 2, -1, 1, led(9)},
		trip{api.DoTextStart, math.MaxInt, 4, 3, led(0)}, trip{api.DoTextEnd, math.MinInt, 4, 3, led(9)},
	)
}

// TestEdgesOfTexts has the first and the last boundary, and the first and the last line.
func TestEdgesOfTexts(t *testing.T) {
	lookAtTrips(t, "a b\nc d",
		trip{api.DoLeft, 0, -1, 1, edge(0, -1)}, trip{api.DoWordLeft, 0, -1, 1, edge(0, -1)}, trip{api.DoRight, 7, -1, 1, edge(7, -1)}, trip{api.DoWordRight, 7, -1, 1, edge(7, -1)},
		trip{api.DoLineStart, 0, -1, 1, led(0)}, trip{api.DoLineEnd, 7, -1, 1, led(7)}, trip{api.DoLineEnd, 3, -1, 1, led(3)}, trip{api.DoLineStart, 4, -1, 1, led(4)},
		trip{api.DoTextStart, 0, 1, 1, led(0)}, trip{api.DoTextEnd, 7, 1, 1, led(7)},
		trip{api.DoUp, 0, -1, 1, edge(0, -1)}, trip{api.DoUp, 2, -1, 1, edge(2, -1)}, trip{api.DoUp, 3, 0, 1, edge(3, 0)}, trip{api.DoUp, 3, 1, 9, edge(3, 1)},
		trip{api.DoDown, 4, -1, 1, edge(4, -1)}, trip{api.DoDown, 6, 0, 1, edge(6, 0)}, trip{api.DoDown, 7, 9, 1, edge(7, 9)},
		trip{api.DoUp, 4, -1, 1, by(0, 0)}, trip{api.DoDown, 3, -1, 1, by(7, 3)},
		// Beside ErrEdge a goal that is none is -1, whatever it was.
		trip{api.DoLeft, 0, -9, 1, edge(0, -1)}, trip{api.DoUp, 2, math.MinInt, 1, edge(2, -1)}, trip{api.DoDown, 7, -2, 1, edge(7, -1)},
		trip{api.DoLeft, 0, math.MaxInt, 1, edge(0, math.MaxInt)}, trip{api.DoRight, 7, 0, 1000, edge(7, 0)}, trip{api.DoWordLeft, -3, 6, 0, edge(0, 6)},
	)
}

// TestWordsWrittenDown has words at the text's ends, blanks there, and words with newlines between.
func TestWordsWrittenDown(t *testing.T) {
	lookAtTrips(t, "  ab, c_1\n\n-d-",
		trip{api.DoWordRight, 0, -1, 1, led(4)}, trip{api.DoWordRight, 2, -1, 1, led(4)}, trip{api.DoWordRight, 3, -1, 1, led(4)}, trip{api.DoWordRight, 4, -1, 1, led(9)},
		trip{api.DoWordRight, 9, -1, 1, led(13)}, trip{api.DoWordRight, 13, -1, 1, led(14)}, trip{api.DoWordRight, 14, -1, 1, edge(14, -1)},
		trip{api.DoWordRight, 0, 3, 3, led(13)}, trip{api.DoWordRight, 0, -1, 4, led(14)}, trip{api.DoWordRight, 0, -1, 5, led(14)},
		trip{api.DoWordLeft, 14, -1, 1, led(12)}, trip{api.DoWordLeft, 12, -1, 1, led(6)}, trip{api.DoWordLeft, 6, -1, 1, led(2)}, trip{api.DoWordLeft, 2, -1, 1, led(0)}, trip{api.DoWordLeft, 1, -1, 1, led(0)},
		trip{api.DoWordLeft, 14, 3, 3, led(2)}, trip{api.DoWordLeft, 14, -1, 4, led(0)}, trip{api.DoWordLeft, 14, -1, 5, led(0)},
	)
	// The mark belongs to the hyphen: the word is from 3 to 4.
	lookAtTrips(t, "-\u0301a",
		trip{api.DoWordRight, 0, -1, 1, led(4)}, trip{api.DoWordLeft, 4, -1, 1, led(3)}, trip{api.DoWordLeft, 3, -1, 1, led(0)}, trip{api.DoWordLeft, 1, -1, 1, led(0)},
	)
}

// TestEmptyLines has empty lines, a text that ends with a newline, and a CR that is no newline's part.
func TestEmptyLines(t *testing.T) {
	// The lines are 0 3, 4 4, 6 6, 7 9 (a lone CR of two cells, and x), 10 10.
	lookAtTrips(t, "abc\n\r\n\n\rx\n",
		trip{api.DoDown, 2, -1, 1, by(4, 2)}, trip{api.DoDown, 2, -1, 2, by(6, 2)}, trip{api.DoDown, 2, -1, 3, by(8, 2)}, trip{api.DoDown, 2, -1, 4, by(10, 2)}, trip{api.DoDown, 2, -1, 5, by(10, 2)},
		trip{api.DoDown, 1, -1, 3, by(7, 1)}, trip{api.DoDown, 3, -1, 3, by(9, 3)}, trip{api.DoDown, 0, -1, 3, by(7, 0)},
		trip{api.DoDown, 4, -1, 1, by(6, 0)}, trip{api.DoDown, 4, 2, 2, by(8, 2)}, trip{api.DoDown, 5, -1, 1, by(7, 0)},
		trip{api.DoDown, 10, -1, 1, edge(10, -1)}, trip{api.DoDown, 9, -1, 1, by(10, 3)}, trip{api.DoUp, 10, -1, 1, by(7, 0)}, trip{api.DoUp, 10, 3, 1, by(9, 3)}, trip{api.DoUp, 10, 3, 4, by(3, 3)}, trip{api.DoUp, 10, 2, 99, by(2, 2)},
		trip{api.DoUp, 8, -1, 3, by(2, 2)}, trip{api.DoUp, 9, -1, 2, by(4, 3)},
		trip{api.DoLineStart, 4, -1, 1, led(4)}, trip{api.DoLineEnd, 4, -1, 1, led(4)}, trip{api.DoLineEnd, 6, -1, 1, led(6)}, trip{api.DoLineStart, 9, -1, 1, led(7)}, trip{api.DoLineEnd, 7, -1, 1, led(9)},
		trip{api.DoLineStart, 10, -1, 1, led(10)}, trip{api.DoLineEnd, 10, -1, 1, led(10)}, trip{api.DoLineEnd, 8, -1, 7, led(9)}, trip{api.DoLineStart, 8, -1, 1000, led(7)},
		trip{api.DoRight, 3, -1, 3, led(7)}, trip{api.DoRight, 7, -1, 1, led(8)}, trip{api.DoLeft, 7, -1, 2, led(4)}, trip{api.DoLeft, 10, -1, 3, led(7)},
	)
	// A CR at the text's end is none, and neither is the first of two ahead of a LF.
	lookAtTrips(t, "\r\r\n\r",
		trip{api.DoLineEnd, 0, -1, 1, led(1)}, trip{api.DoLineEnd, 3, -1, 1, led(4)}, trip{api.DoDown, 1, -1, 1, by(4, 2)}, trip{api.DoUp, 4, -1, 1, by(1, 2)}, trip{api.DoUp, 4, 1, 1, by(0, 1)}, trip{api.DoRight, 1, -1, 1, led(3)},
	)
}

// TestGoals has goals between two boundaries' columns, behind lines' ends, and goals that are none.
func TestGoals(t *testing.T) {
	// The lines are 0 6 (columns 0 to 6), 7 13 (wide ones at 7 and 10: columns 0, 2, 4), 14 15, 16 22 (a wide one, a, b and a control: columns 0, 2, 3, 4, 6 at 16, 19, 20, 21, 22).
	lookAtTrips(t, "abcdef\n\u4e00\u4e00\nx\n\u4e00ab\x01",
		trip{api.DoDown, 0, -1, 1, by(7, 0)}, trip{api.DoDown, 1, -1, 1, by(7, 1)}, trip{api.DoDown, 2, -1, 1, by(10, 2)}, trip{api.DoDown, 3, -1, 1, by(10, 3)}, trip{api.DoDown, 4, -1, 1, by(13, 4)}, trip{api.DoDown, 6, -1, 1, by(13, 6)},
		// The goal is kept over lines where it can't be reached.
		trip{api.DoDown, 3, -1, 2, by(15, 3)}, trip{api.DoDown, 3, -1, 3, by(20, 3)}, trip{api.DoDown, 1, -1, 3, by(16, 1)}, trip{api.DoDown, 5, -1, 3, by(21, 5)}, trip{api.DoDown, 6, -1, 3, by(22, 6)}, trip{api.DoDown, 2, -1, 3, by(19, 2)},
		trip{api.DoUp, 22, -1, 1, by(15, 6)}, trip{api.DoUp, 22, -1, 2, by(13, 6)}, trip{api.DoUp, 22, -1, 3, by(6, 6)}, trip{api.DoUp, 20, -1, 2, by(10, 3)}, trip{api.DoUp, 20, -1, 3, by(3, 3)},
		// A goal that is given goes ahead of the place's own column.
		trip{api.DoDown, 5, 0, 1, by(7, 0)}, trip{api.DoDown, 0, 3, 1, by(10, 3)}, trip{api.DoDown, 0, 4, 1, by(13, 4)}, trip{api.DoUp, 14, 5, 2, by(5, 5)}, trip{api.DoUp, 10, 0, 1, by(0, 0)},
		trip{api.DoDown, 0, math.MaxInt, 1, by(13, math.MaxInt)}, trip{api.DoDown, 0, math.MaxInt, 3, by(22, math.MaxInt)}, trip{api.DoUp, 22, 1 << 40, 9, by(6, 1<<40)},
		trip{api.DoDown, 3, -2, 1, by(10, 3)}, trip{api.DoDown, 3, math.MinInt, 1, by(10, 3)}, trip{api.DoUp, 13, -5, 1, by(4, 4)},
		// Other motions pass it over, and answer none.
		trip{api.DoLeft, 3, 5, 1, led(2)}, trip{api.DoRight, 3, 0, 1, led(4)}, trip{api.DoWordLeft, 3, 2, 1, led(0)}, trip{api.DoWordRight, 3, 9, 1, led(6)}, trip{api.DoLineStart, 3, 2, 1, led(0)}, trip{api.DoLineEnd, 3, 1, 1, led(6)}, trip{api.DoTextStart, 3, 2, 1, led(0)}, trip{api.DoTextEnd, 3, 2, 1, led(22)},
	)
}

// TestCounts has counts below 1, 1, the steps that there are, more than these, and MostCount, in a text that has more steps than that.
func TestCounts(t *testing.T) {
	lookAtTrips(t, "a b\nc d\ne",
		trip{api.DoRight, 2, -1, math.MinInt, led(3)}, trip{api.DoRight, 2, -1, -1, led(3)}, trip{api.DoRight, 2, -1, 0, led(3)}, trip{api.DoRight, 2, -1, 1, led(3)}, trip{api.DoRight, 2, -1, 2, led(4)},
		trip{api.DoRight, 2, -1, 7, led(9)}, trip{api.DoRight, 2, -1, 8, led(9)}, trip{api.DoRight, 2, -1, math.MaxInt, led(9)}, trip{api.DoLeft, 2, -1, 2, led(0)}, trip{api.DoLeft, 2, -1, 3, led(0)},
		trip{api.DoWordRight, 0, -1, -7, led(1)}, trip{api.DoWordRight, 0, -1, 4, led(7)}, trip{api.DoWordLeft, 9, -1, 0, led(8)}, trip{api.DoWordLeft, 9, -1, math.MaxInt, led(0)},
		trip{api.DoDown, 1, -1, math.MinInt, by(5, 1)}, trip{api.DoDown, 1, -1, 0, by(5, 1)}, trip{api.DoDown, 1, -1, 2, by(9, 1)}, trip{api.DoDown, 1, -1, 3, by(9, 1)}, trip{api.DoDown, 1, -1, math.MaxInt, by(9, 1)},
		trip{api.DoUp, 9, -1, -1, by(5, 1)}, trip{api.DoUp, 9, -1, 2, by(1, 1)}, trip{api.DoUp, 9, -1, math.MaxInt, by(1, 1)}, trip{api.DoUp, 5, 3, 1000, by(3, 3)},
		trip{api.DoLineEnd, 0, -1, 3, led(3)}, trip{api.DoLineStart, 7, -1, 3, led(4)}, trip{api.DoLineEnd, 0, -1, math.MinInt, led(3)},
	)
	// It has 3000 clusters, 1500 words and 1501 lines.
	text := strings.Repeat("a\n", 1500)
	for count, made := range map[int]int{-1: 1, 0: 1, 1: 1, 2: 2, 999: 999, 1000: 1000, 1001: 1000, 1499: 1000, 2000: 1000, 1 << 31: 1000, 1 << 32: 1000, math.MaxInt: 1000} {
		lookAtTrips(t, text,
			trip{api.DoRight, 0, -1, count, led(made)}, trip{api.DoLeft, 3000, -1, count, led(3000 - made)},
			trip{api.DoWordRight, 0, -1, count, led(2*made - 1)}, trip{api.DoWordLeft, 3000, -1, count, led(3000 - 2*made)},
			trip{api.DoDown, 1, -1, count, by(2*made+1, 1)}, trip{api.DoUp, 3000, 1, count, by(3001-2*made, 1)}, trip{api.DoUp, 3000, -1, count, by(3000-2*made, 0)},
			trip{api.DoTextEnd, 0, -1, count, led(3000)}, trip{api.DoTextStart, 3000, -1, count, led(0)}, trip{api.DoLineEnd, 6, -1, count, led(7)}, trip{api.DoLineStart, 7, -1, count, led(6)},
		)
		for _, k := range twoKeepers(t, text) {
			if got, e := move.Span(k.store, api.DoWordLeft, 3000, count); got != (api.Span{From: 3000 - 2*made, To: 3000}) || e != api.OK {
				t.Errorf("P16.3: Span back %d words by %s: %v, %v", count, k.name, got, e)
			}
		}
	}
}

func TestSpansWrittenDown(t *testing.T) {
	for _, k := range keepers(t, "ab\u0301 c\n\u4e00d\n") {
		for _, x := range []struct {
			kind      api.CommandKind
			at, count int
			from, to  int
			e         api.Errno
		}{
			{api.DoRight, 0, 1, 0, 1, api.OK}, {api.DoRight, 1, 2, 1, 5, api.OK}, {api.DoRight, 2, 1, 4, 5, api.OK}, {api.DoLeft, 2, 1, 1, 4, api.OK}, {api.DoLeft, 6, 99, 0, 6, api.OK}, {api.DoLeft, 4, 0, 1, 4, api.OK},
			{api.DoWordRight, 4, 1, 4, 6, api.OK}, {api.DoWordLeft, 6, 2, 0, 6, api.OK}, {api.DoWordLeft, 8, 1, 7, 10, api.OK},
			{api.DoLineStart, 6, 1, 0, 6, api.OK}, {api.DoLineEnd, 1, 1, 1, 6, api.OK}, {api.DoTextStart, 5, 1, 0, 5, api.OK}, {api.DoTextEnd, 5, 1, 5, 12, api.OK},
			// By its own column, as there is no goal: 2 of the boundary 4, and 3 of the boundary 11.
			{api.DoDown, 4, 1, 4, 10, api.OK}, {api.DoDown, 4, 2, 4, 12, api.OK}, {api.DoUp, 11, 1, 5, 11, api.OK}, {api.DoUp, 12, 2, 0, 12, api.OK},
			// Both places are one.
			{api.DoLineStart, 0, 1, 0, 0, api.OK}, {api.DoLineStart, 7, 1, 7, 7, api.OK}, {api.DoLineEnd, 6, 1, 6, 6, api.OK}, {api.DoLineEnd, 12, 1, 12, 12, api.OK}, {api.DoTextStart, -1, 1, 0, 0, api.OK}, {api.DoTextEnd, 99, 1, 12, 12, api.OK},
			// Refused.
			{api.DoLeft, 0, 1, 0, 0, api.ErrEdge}, {api.DoRight, 12, 1, 0, 0, api.ErrEdge}, {api.DoRight, 99, 1, 0, 0, api.ErrEdge}, {api.DoWordLeft, -1, 1, 0, 0, api.ErrEdge}, {api.DoWordRight, 12, 5, 0, 0, api.ErrEdge}, {api.DoUp, 5, 1, 0, 0, api.ErrEdge}, {api.DoDown, 12, 1, 0, 0, api.ErrEdge}, {api.DoInsert, 5, 1, 0, 0, api.ErrKind}, {api.DoKillWordLeft, 5, 1, 0, 0, api.ErrKind},
		} {
			if got, e := move.Span(k.store, x.kind, x.at, x.count); got != (api.Span{From: x.from, To: x.to}) || e != x.e {
				t.Errorf("P16.3: Span(%d, %d, %d) by %s: %v, %v, want %d %d, %v", x.kind, x.at, x.count, k.name, got, e, x.from, x.to, x.e)
			}
		}
	}
}

// TestColumnsWrittenDown has the column at each offset: one that is no boundary counts as the next, and inside a CR LF that is the next line's beginning.
func TestColumnsWrittenDown(t *testing.T) {
	for text, columns := range map[string][]int{
		"":                        {0},
		"\n":                      {0, 0},
		"\r\n":                    {0, 0, 0},
		"\r":                      {0, 2},
		"ab\r\nc":                 {0, 1, 2, 0, 0, 1},
		"a\u4e00\n":               {0, 1, 3, 3, 3, 0},
		"e\u0301x\r\r\n":          {0, 1, 1, 1, 2, 4, 0, 0},
		"\n\u0301\x7f\u0085\xff":  {0, 0, 1, 1, 3, 4, 4, 5},
		"\U0001F600\U0001F3FB\r!": {0, 2, 2, 2, 2, 2, 2, 2, 2, 4, 5},
	} {
		for _, k := range keepers(t, text) {
			for at, want := range columns {
				if got := move.Column(k.store, at); got != want {
					t.Errorf("P16.4: Column(%d) of %q by %s: %d, want %d", at, text, k.name, got, want)
				}
			}
			for _, at := range []int{math.MinInt, -1} {
				if got := move.Column(k.store, at); got != 0 {
					t.Errorf("P16.4: Column(%d) of %q by %s: %d", at, text, k.name, got)
				}
			}
			for _, at := range []int{len(text) + 1, math.MaxInt} {
				if got, want := move.Column(k.store, at), columns[len(text)]; got != want {
					t.Errorf("P16.4: Column(%d) of %q by %s: %d, want %d", at, text, k.name, got, want)
				}
			}
		}
	}
}

func TestPlacesWrittenDown(t *testing.T) {
	// The lines are 0 7 (columns 0, 1, 3, 4 at 0, 1, 4, 7), 9 9, 10 12 (columns 0, 1, 3).
	for _, k := range keepers(t, "a\u4e00e\u0301\r\n\nb\x01") {
		for _, x := range [][3]int{
			{0, 0, 0}, {0, 1, 1}, {0, 2, 1}, {0, 3, 4}, {0, 4, 7}, {0, 5, 7}, {0, math.MaxInt, 7}, {0, -1, 0}, {0, math.MinInt, 0},
			{1, 0, 9}, {1, 5, 9}, {1, -5, 9}, {1, math.MaxInt, 9},
			{2, 0, 10}, {2, 1, 11}, {2, 2, 11}, {2, 3, 12}, {2, 4, 12}, {2, -1, 10},
			{-1, 3, 4}, {math.MinInt, 4, 7}, {-1, -1, 0}, {3, 0, 10}, {3, 2, 11}, {99, 99, 12}, {math.MaxInt, math.MaxInt, 12}, {math.MaxInt, math.MinInt, 10}, {math.MinInt, math.MaxInt, 7},
		} {
			if got := move.Place(k.store, x[0], x[1]); got != x[2] {
				t.Errorf("P16.4: Place(%d, %d) by %s: %d, want %d", x[0], x[1], k.name, got, x[2])
			}
		}
	}
	for _, k := range keepers(t, "ab\n") {
		for _, x := range [][3]int{{0, 1, 1}, {0, 9, 2}, {1, 0, 3}, {1, 9, 3}, {2, 1, 3}} {
			if got := move.Place(k.store, x[0], x[1]); got != x[2] {
				t.Errorf("P16.4: Place(%d, %d) of a text that ends with a newline, by %s: %d, want %d", x[0], x[1], k.name, got, x[2])
			}
		}
	}
}

// TestNothing has every call of the empty text, of a nil store and of the zero Store.
func TestNothing(t *testing.T) {
	var none *store.Store
	list := append(keepers(t, ""), keeper{"nil", nil}, keeper{"a nil store", none}, keeper{"the zero Store", &store.Store{}})
	for _, k := range list {
		before := stateOf(k.store)
		for _, n := range []int{math.MinInt, -1, 0, 1, 7, math.MaxInt} {
			for _, kind := range []api.CommandKind{api.DoLeft, api.DoRight, api.DoWordLeft, api.DoWordRight, api.DoUp, api.DoDown} {
				if to, next, e := move.Go(k.store, kind, n, n, n); to != 0 || next != max(n, -1) || e != api.ErrEdge {
					t.Errorf("P16.5: Go(%d, %d) of %s: %d, %d, %v", kind, n, k.name, to, next, e)
				}
				if span, e := move.Span(k.store, kind, n, n); span != (api.Span{}) || e != api.ErrEdge {
					t.Errorf("P16.5: Span(%d, %d) of %s: %v, %v", kind, n, k.name, span, e)
				}
			}
			for _, kind := range []api.CommandKind{api.DoLineStart, api.DoLineEnd, api.DoTextStart, api.DoTextEnd} {
				if to, next, e := move.Go(k.store, kind, n, n, n); to != 0 || next != -1 || e != api.OK {
					t.Errorf("P16.5: Go(%d, %d) of %s: %d, %d, %v", kind, n, k.name, to, next, e)
				}
				if span, e := move.Span(k.store, kind, n, n); span != (api.Span{}) || e != api.OK {
					t.Errorf("P16.5: Span(%d, %d) of %s: %v, %v", kind, n, k.name, span, e)
				}
			}
			if column, at := move.Column(k.store, n), move.Place(k.store, n, n); column != 0 || at != 0 {
				t.Errorf("P16.5: Column(%d) and Place of %s: %d, %d", n, k.name, column, at)
			}
		}
		if after := stateOf(k.store); after != before {
			t.Errorf("P16.5: %s was %v and is %v", k.name, before, after)
		}
	}
}
