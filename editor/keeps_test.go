package editor_test

import (
	"testing"

	"bodkin/api"
	"bodkin/editor"
)

// This file has what every command does besides: what it ends, seen by the command that comes next.

// scenes lists texts with the cursor at both ends, within and at a line's ends, in each of which some kinds are done and others refused.
func scenes() [][]action {
	ahead := all(line("x"), line("b-c"), these(paste("kill"), one(api.DoKillLineStart)))
	marked := all(ahead, these(paste("ab cd\nef"), mark(api.DoSetMark, 'a'), one(api.DoLeft), mark(api.DoSetMark, '@'), one(api.DoUp)))
	return [][]action{
		ahead,
		all(ahead, these(paste("ab cd\nef"))),
		all(ahead, these(paste("ab cd\nef"), one(api.DoTextStart))),
		all(ahead, these(paste("ab cd\nef"), one(api.DoUp))),
		marked,
		all(marked, these(one(api.DoLineEnd))),
		all(marked, these(one(api.DoHistoryBack), paste("!"))),
		all(marked, these(one(api.DoExchange), mark(api.DoSetMark, '@'))),
	}
}

// giveUp gives a search up, so that what comes next is no part of it.
func giveUp(e *editor.Editor) {
	if e.Searching() {
		e.Do(one(api.DoAbort).command)
	}
}

// on does an action, and answers the error.
func on(e *editor.Editor, a action) api.Errno {
	if a.switches {
		return e.Switch(a.to)
	}
	_, _, err := e.Do(a.command)
	return err
}

// typed answers whether a is a unit that is typed, of those in everyAction.
func typed(a action) bool {
	c := a.command
	return !a.switches && c.Kind == api.DoInsert && c.Count <= 1 && (c.Text == "p" || c.Text == "\u0301" || c.Text == "\xcc" || c.Text == "\r" || c.Text == "r")
}

// TestRunsAreEnded: behind a unit, then any action, another unit goes to the same group only where the action was a unit that fitted, or a switch.
func TestRunsAreEnded(t *testing.T) {
	for _, scene := range scenes() {
		for _, first := range []string{"z", "\n"} {
			for _, a := range everyAction() {
				e := made(t, roomy(), append(scene, put(first))...)
				err := on(e, a)
				giveUp(e)
				ahead, _ := e.Groups()
				answers(t, e, put("z"), api.OK)
				behind, _ := e.Groups()
				if kept := behind == ahead; kept != (a.switches || typed(a) && err == api.OK) {
					t.Errorf("P23.2: a unit behind a unit and %v (%v): %d groups, then %d", a, err, ahead, behind)
				}
			}
		}
	}
	e := made(t, tight(), paste("12345678"), put("a"))
	answers(t, e, put("\u4e00"), api.ErrFull)
	answers(t, e, put("b"), api.OK)
	seen(t, "R10: a unit that doesn't fit ends the run", e, "12345678ab", 10, "", 3, 0)
}

// killingOn are the kinds behind which, if they are done, the next kill is put together with what was killed.
var killingOn = map[api.CommandKind]int{api.DoKillWordRight: 1, api.DoKillWordLeft: 1, api.DoKillLineEnd: 1, api.DoKillLineStart: 1, api.DoKillRegion: 1}

// TestKillsAreEnded: behind a kill, then any action, another kill is put together with the newest entry only where the action was a kill that was done, or a switch.
func TestKillsAreEnded(t *testing.T) {
	for _, scene := range scenes() {
		for _, a := range everyAction() {
			e := made(t, roomy(), append(scene, paste("yz"), one(api.DoLeft), one(api.DoKillWordLeft))...)
			err := on(e, a)
			giveUp(e)
			ahead := len(e.Kills())
			next := one(api.DoKillWordLeft)
			if e.Cursor() == 0 {
				next = one(api.DoKillWordRight)
			}
			if on(e, next) != api.OK {
				continue
			}
			if kept := len(e.Kills()) == ahead; kept != (a.switches || err == api.OK && killingOn[a.command.Kind] > 0) {
				t.Errorf("P23.2: a kill behind a kill and %v (%v): %q", a, err, e.Kills())
			}
		}
	}
}

// TestGoalsAreEnded: a goal is kept by a way up or down that is done, and by a switch, by nothing else.
func TestGoalsAreEnded(t *testing.T) {
	begun := all(line("x"), line("b-c"), these(paste("kill"), one(api.DoKillLineStart)))
	for _, text := range []string{"ab\ncd\nef", "a\nb\n\nc", "\u4e00b\n\nef", "\n\n"} {
		for _, way := range [][]action{{one(api.DoUp)}, {many(api.DoUp, 9)}, {many(api.DoUp, 9), one(api.DoDown)}, {many(api.DoUp, 2), many(api.DoDown, 9)}} {
			for _, marked := range []bool{false, true} {
				for _, a := range everyAction() {
					ahead := append(begun, paste(text))
					if marked {
						ahead = append(ahead, mark(api.DoSetMark, '@'), mark(api.DoSetMark, 'a'))
					}
					e := made(t, roomy(), append(ahead, way...)...)
					goal := e.Goal()
					err := on(e, a)
					want := -1
					if k := a.command.Kind; a.switches || err == api.OK && (k == api.DoUp || k == api.DoDown) {
						want = goal
					}
					if goal < 0 || e.Goal() != want {
						t.Errorf("P23.2: a goal of %d behind %v (%v): %d, want %d", goal, a, err, e.Goal(), want)
					}
				}
			}
		}
	}
}

// TestWayDown: the column that the next way down goes by is the goal, or the cursor's own where the goal was ended.
func TestWayDown(t *testing.T) {
	const byGoal, byCursor = 11, 8
	for _, x := range []struct {
		between []action
		cursor  int
	}{
		{nil, byGoal},
		{these(switchTo(api.KindRope), switchTo(api.KindGap), switchTo(7)), byGoal},
		{these(one(api.DoUp), one(api.DoDown)), byGoal},
		// The way up that is refused ends the goal, but the cursor's own column is the same there.
		{these(one(api.DoUp), one(api.DoUp), one(api.DoDown)), byGoal},
		{these(many(api.DoDown, 9), one(api.DoDown), many(api.DoUp, 2)), byCursor - 1},
		{these(one(api.DoNothing)), byCursor},
		{these(one(api.DoRepaint)), byCursor},
		{these(one(api.DoAbort)), byCursor},
		{these(one(api.DoLineEnd)), byCursor},
		{these(one(api.DoYank)), byCursor},
		{these(put("")), byCursor},
		{these(put("x"), one(api.DoUndo)), byCursor},
		{these(one(api.DoRedo)), byCursor},
		{these(mark(api.DoSetMark, 'a')), byCursor},
		{these(mark(api.DoSetMark, '?')), byCursor},
		{these(one(api.DoSearch), one(api.DoAbort)), byCursor},
		{these(one(api.DoSearch)), byCursor},
	} {
		// The line of one letter, which the cursor comes to first, keeps the column 4.
		e := at(t, roomy(), "abcd\ne\nfghi\n", 4)
		for _, a := range all(these(one(api.DoDown)), x.between, these(one(api.DoDown))) {
			on(e, a)
		}
		if e.Cursor() != x.cursor {
			t.Errorf("P23.2: a way down behind %v: cursor %d, want %d", x.between, e.Cursor(), x.cursor)
		}
	}
}

// TestRefusedChangeNothing: of what is seen a refused command changes nothing but the goal, unless it ends a search with a hit.
func TestRefusedChangeNothing(t *testing.T) {
	refused := map[api.CommandKind]int{}
	for name, begun := range beginnings() {
		for _, c := range configs() {
			for _, a := range everyAction() {
				x := newPair(c).begun(t, begun)
				was, marks, kills := tell(x.e), x.e.Marks(), x.e.Kills()
				err := on(x.e, a)
				if err == api.OK || was.searching && !x.e.Searching() {
					continue
				}
				refused[a.command.Kind]++
				was.goal = -1
				if a.switches {
					was.goal = x.e.Goal()
				}
				if now := tell(x.e); now != was || len(marks) != len(x.e.Marks()) || len(kills) != len(x.e.Kills()) {
					t.Errorf("R10: behind %s and %v, which is refused: %v, was %v", name, a, now, was)
				}
			}
		}
	}
	never := map[api.CommandKind]int{api.DoNothing: 1, api.DoRepaint: 1, api.DoAccept: 1, api.DoLineStart: 1, api.DoLineEnd: 1, api.DoTextStart: 1, api.DoTextEnd: 1}
	for k := api.DoNothing; k <= api.DoUnbound; k++ {
		// Of the kind 0 there are the switches, too.
		if k != api.DoNothing && refused[k] > 0 == (never[k] > 0) {
			t.Errorf("the kind %d is refused %d times", k, refused[k])
		}
	}
}
