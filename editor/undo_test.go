package editor_test

import (
	"math"
	"slices"
	"testing"

	"bodkin/api"
)

// TestUndoCounts has counts below, at and above the number of groups.
func TestUndoCounts(t *testing.T) {
	texts := []string{"", "a-", "a-b-", "a-b-c-", "a-b-c-d-"}
	for _, x := range []struct{ count, back int }{{math.MinInt, 1}, {-1, 1}, {0, 1}, {1, 1}, {2, 2}, {3, 3}, {4, 4}, {5, 4}, {999, 4}, {1000, 4}, {1001, 4}, {math.MaxInt, 4}} {
		e := made(t, roomy(), put("a-"), put("b-"), put("c-"), put("d-"))
		answers(t, e, one(api.DoRedo), api.ErrNoRedo)
		answers(t, e, many(api.DoUndo, x.count), api.OK)
		text := texts[4-x.back]
		seen(t, "P23.2: DoUndo", e, text, len(text), "", 4-x.back, x.back)
		e.Do(many(api.DoUndo, 9).command)
		seen(t, "P23.2: DoUndo of all", e, "", 0, "", 0, 4)
		answers(t, e, one(api.DoUndo), api.ErrNoUndo)
		answers(t, e, many(api.DoUndo, x.count), api.ErrNoUndo)
		answers(t, e, many(api.DoRedo, x.count), api.OK)
		text = texts[x.back]
		seen(t, "P23.2: DoRedo", e, text, len(text), "", x.back, 4-x.back)
		e.Do(many(api.DoRedo, 9).command)
		seen(t, "P23.2: DoRedo of all", e, "a-b-c-d-", 8, "", 4, 0)
		answers(t, e, many(api.DoRedo, x.count), api.ErrNoRedo)
	}
}

// TestUndoOfMany has MostCount groups and more: an undo goes back MostCount of them.
func TestUndoOfMany(t *testing.T) {
	e := made(t, roomy())
	for range 1200 {
		answers(t, e, paste("x"), api.OK)
	}
	if undo, _ := e.Groups(); undo != 1000 {
		t.Fatalf("P3: %d groups", undo)
	}
	answers(t, e, many(api.DoUndo, 999), api.OK)
	seen(t, "P23.2: 999 undone", e, e.Text(), 201, "", 1, 999)
	answers(t, e, one(api.DoUndo), api.OK)
	answers(t, e, one(api.DoUndo), api.ErrNoUndo)
	answers(t, e, many(api.DoRedo, math.MaxInt), api.OK)
	seen(t, "P23.2: all done again", e, e.Text(), 1200, "", 1000, 0)
}

// TestUndoBehindReset: behind an accepted line, a step of the history and a search that is kept there is nothing to undo.
func TestUndoBehindReset(t *testing.T) {
	for name, list := range map[string][]action{
		"an accepted line": {one(api.DoAccept)},
		"a step back":      {one(api.DoHistoryBack)},
		"steps":            {one(api.DoHistoryBack), put("x-"), one(api.DoHistoryForward)},
		"a search":         {one(api.DoSearch), put("o"), one(api.DoNothing)},
	} {
		e := made(t, roomy(), all(line("one"), these(put("a-"), put("b-"), one(api.DoUndo)), list)...)
		text := e.Text()
		for _, a := range these(one(api.DoUndo), many(api.DoUndo, 9)) {
			answers(t, e, a, api.ErrNoUndo)
		}
		for _, a := range these(one(api.DoRedo), many(api.DoRedo, 9)) {
			answers(t, e, a, api.ErrNoRedo)
		}
		seen(t, "P23.2: "+name, e, text, e.Cursor(), "", 0, 0)
	}
	e := made(t, roomy(), all(line("one"), these(put("a-"), put("b-"), one(api.DoUndo), one(api.DoSearch), put("o"), one(api.DoAbort)))...)
	seen(t, "P23.3: a search that is given up", e, "a-", 2, "", 1, 1)
	answers(t, e, one(api.DoRedo), api.OK)
	seen(t, "P23.3: a search that is given up, and redo", e, "a-b-", 4, "", 2, 0)
}

// point is what undo and redo bring back.
type point struct {
	text   string
	cursor int
	marks  []api.Mark
}

func pointOf(x *pair) point {
	return point{x.e.Text(), x.e.Cursor(), x.e.Marks()}
}

func (p point) is(x *pair) bool {
	now := pointOf(x)
	return now.text == p.text && now.cursor == p.cursor && slices.Equal(now.marks, p.marks)
}

// changing answers an action of a kind that makes a group, if it changes the text.
func changing(next func(int) int) action {
	kinds := []api.CommandKind{
		api.DoInsert, api.DoInsert, api.DoPaste, api.DoNewline, api.DoDeleteRight, api.DoDeleteLeft, api.DoKillWordRight, api.DoKillWordLeft, api.DoKillLineEnd, api.DoKillLineStart, api.DoKillRegion,
		api.DoYank, api.DoYankPop, api.DoTransposeChars, api.DoTransposeWords, api.DoUpperWord, api.DoLowerWord, api.DoCapitalWord,
	}
	// Two units or more, so that no two inserts are one group.
	return action{command: api.Command{Kind: kinds[next(len(kinds))], Count: 1, Text: pieces[next(8)] + pieces[next(8)]}}
}

// TestUndoAndRedo: from any point so many groups, as many undos, as many redos; by single commands and by counts.
func TestUndoAndRedo(t *testing.T) {
	for seed := range 400 {
		next := numbers(uint64(seed) + 77)
		bound := 1 + next(9)
		x := newPair(api.Config{Text: 100, Kill: 4, History: 4, Undo: bound, Store: api.Kind(next(4)), Low: next(20), High: next(40)})
		for range 5 {
			for range 30 {
				x.act(t, someAction(next))
			}
			// A hit is no point: what is undone there is the text that it hides.
			x.act(t, one(api.DoSearch))
			x.act(t, one(api.DoAbort))
			points := []point{pointOf(x)}
			for len(points) <= bound && next(12) > 0 {
				was := x.e.Text()
				x.act(t, changing(next))
				if x.e.Text() == was {
					// It made no group, and may have brought the cursor elsewhere.
					points = points[:0]
				}
				points = append(points, pointOf(x))
			}
			goBackAndForth(t, x, points, next(2) == 0)
			x.done = nil
		}
	}
}

// goBackAndForth undoes to the first of points, one behind each group, and does all groups again.
func goBackAndForth(t *testing.T, x *pair, points []point, atOnce bool) {
	t.Helper()
	n := len(points) - 1
	if n == 0 {
		return
	}
	if atOnce {
		x.act(t, many(api.DoUndo, n))
		if !points[0].is(x) {
			t.Fatalf("P3: behind %v: %v, was %v", x.done, pointOf(x), points[0])
		}
		x.act(t, many(api.DoRedo, n))
		if !points[n].is(x) {
			t.Fatalf("P3: behind %v: %v, was %v", x.done, pointOf(x), points[n])
		}
		return
	}
	for i := n - 1; i >= 0; i-- {
		x.act(t, one(api.DoUndo))
		if !points[i].is(x) {
			t.Fatalf("P3: behind %v: %v, was %v", x.done, pointOf(x), points[i])
		}
	}
	for i := 1; i <= n; i++ {
		x.act(t, one(api.DoRedo))
		if !points[i].is(x) {
			t.Fatalf("P3: behind %v: %v, was %v", x.done, pointOf(x), points[i])
		}
	}
}
