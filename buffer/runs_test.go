package buffer_test

import (
	"slices"
	"strings"
	"testing"

	"bodkin/api"
	"bodkin/buffer"
)

// This file has runs, what undo and redo bring back, and what is done to the store, with the answers written down.

// typed answers the Do of a run that puts text at the end of b's.
func typed(b *buffer.Buffer, text string) call {
	n := b.Len()
	return do(n+len(text), true, edit(n, 0, text))
}

// typeOn types so many letters, each a Do, and holds Run and the groups against what a run of at most 20 makes of them.
func typeOn(t *testing.T, b *buffer.Buffer, many, run, groups int) {
	t.Helper()
	for range many {
		if run == 20 || run == 0 {
			run = 0
			groups++
		}
		run++
		e := onBuffer(b, typed(b, "x"))
		if undo, redo := b.Groups(); e != api.OK || b.Run() != run || undo != groups || redo != 0 {
			t.Fatalf("P15.5: behind %d bytes: %v, run %d, groups %d and %d, want %d, %d", b.Len(), e, b.Run(), undo, redo, run, groups)
		}
	}
}

func TestRunsOfMany(t *testing.T) {
	for _, many := range []int{1, 2, 19, 20, 21, 39, 40, 41, 100} {
		for kind := range api.Kind(4) {
			b := buffer.New(api.Config{Text: 100, Undo: 100, Store: kind, Low: 7, High: 30})
			typeOn(t, b, many, 0, 0)
			groups, _ := b.Groups()
			for n := groups - 1; n >= 0; n-- {
				if e := b.Undo(); e != api.OK || b.Len() != 20*n || b.Cursor() != 20*n || b.Run() != 0 {
					t.Errorf("P15.6: Undo of a run: %v, %d bytes, want %d", e, b.Len(), 20*n)
				}
			}
			for n := range groups {
				if e := b.Redo(); e != api.OK || b.Len() != min(20*n+20, many) || b.Cursor() != b.Len() || b.Run() != 0 {
					t.Errorf("P15.6: Redo of a run: %v, %d bytes", e, b.Len())
				}
			}
		}
	}
}

// TestRunIsEnded: each call that ends a run, at each length of it; what is typed then is a new group.
func TestRunIsEnded(t *testing.T) {
	for _, c := range []call{
		goTo(0), goTo(1), setMark('a', 1), setMark('@', 0), rest,
		do(-1, true), do(1, true), do(-1, true, edit(0, 1, "x")), do(-1, false), do(0, false, edit(0, 0, "")),
	} {
		for _, many := range []int{1, 2, 19, 20} {
			b := buffer.New(api.Config{Text: 100, Undo: 9})
			typeOn(t, b, many, 0, 0)
			if e := onBuffer(b, c); e != api.OK || b.Run() != 0 {
				t.Errorf("%s: %v ended no run of %d: %v, run %d", promise(c.name), c, many, e, b.Run())
			}
			typeOn(t, b, 22, 0, 1)
		}
	}
	for _, many := range []int{1, 2, 19, 20} {
		b := buffer.New(api.Config{Text: 100, Undo: 9})
		typeOn(t, b, many, 0, 0)
		onBuffer(b, do(-1, false, edit(0, 0, "y")))
		hold(t, "P15.5: a Do that is in no run", b, "y"+strings.Repeat("x", many), many+1, "", 2, 0, 0)
		typeOn(t, b, 2, 0, 2)
		b.Undo()
		hold(t, "P15.6: Undo of a run", b, "y"+strings.Repeat("x", many), many+1, "", 2, 1, 0)
		typeOn(t, b, 2, 0, 2)
		b.Undo()
		b.Redo()
		typeOn(t, b, 2, 0, 3)
		if e := b.Reset("z"); e != api.OK || b.Run() != 0 {
			t.Error("P15.7: Reset ended no run:", e, b.Run())
		}
		typeOn(t, b, 2, 0, 0)
	}
}

// TestRunIsNotEnded: switches, refusals and looking, at each length of a run.
func TestRunIsNotEnded(t *testing.T) {
	for _, c := range []call{
		switchTo(api.KindGap), switchTo(api.KindRope), switchTo(api.KindHybrid), switchTo(0), goTo(-1), goTo(101),
		setMark('A', 0), setMark('a', -1), setMark('a', 101), redo, reset(strings.Repeat("x", 101)), {name: "looking"},
		do(-2, true), do(-2, false), do(101, false), do(-1, false, edit(0, 0, "x"), edit(-1, 0, "")), do(-1, true, edit(101, 0, "")), do(-1, false, edit(0, 0, strings.Repeat("x", 101))),
	} {
		for _, many := range []int{1, 2, 18, 19, 20} {
			b := buffer.New(api.Config{Text: 100, Undo: 9, Low: 3, High: 30})
			typeOn(t, b, many, 0, 0)
			onBuffer(b, c)
			hold(t, promise(c.name)+": "+c.String()+" in a run", b, strings.Repeat("x", many), many, "", 1, 0, many)
			typeOn(t, b, 22, many, 1)
		}
	}
	b := made(t, api.Config{Text: 9}, do(1, true, edit(0, 0, "a")))
	refuse(t, "P15.6, P15.8: Undo in a run that has no group", b, undo, api.ErrNoUndo)
	onBuffer(b, typed(b, "b"))
	hold(t, "P15.6, P15.8: a run goes on behind a refused Undo", b, "ab", 2, "", 0, 0, 2)
}

// TestRunIsBegun: a Do of a run begins one behind a Do that is in none, and drops what could be done again.
func TestRunIsBegun(t *testing.T) {
	b := made(t, api.Config{Text: 9, Undo: 2}, do(-1, false, edit(0, 0, "a")), do(-1, false, edit(0, 0, "b")), undo)
	hold(t, "P15.6: Undo", b, "a", 0, "", 1, 1, 0)
	onBuffer(b, do(0, true, edit(0, 0, "c")))
	hold(t, "P15.5: a run is begun", b, "ca", 0, "", 2, 0, 1)
	refuse(t, "P15.5: what could be done again is gone", b, redo, api.ErrNoRedo)
	onBuffer(b, do(0, true, edit(0, 0, "d")))
	hold(t, "P15.5: a run goes on at the bound", b, "dca", 0, "", 2, 0, 2)
	b.Undo()
	hold(t, "P15.6: Undo of a run", b, "a", 0, "", 1, 1, 0)
	onBuffer(b, do(0, false, edit(0, 0, "e")))
	hold(t, "P15.5: a new group", b, "ea", 0, "", 2, 0, 0)
	refuse(t, "P15.5: what could be done again is gone", b, redo, api.ErrNoRedo)
	onBuffer(b, do(0, false, edit(0, 0, "f")))
	b.Undo()
	b.Undo()
	hold(t, "P15.5: the oldest is gone", b, "a", 0, "", 0, 2, 0)
}

// TestUndoAndMarks: undo brings back the marks that were there ahead of its group, whatever was laid or moved since; redo those behind it.
func TestUndoAndMarks(t *testing.T) {
	b := made(t, api.Config{Text: 20, Undo: 9}, reset("abcd"), goTo(1), setMark('a', 2))
	onBuffer(b, do(-1, false, edit(0, 0, "xy")))
	hold(t, "P15.5: a group", b, "xyabcd", 3, "a4", 1, 0, 0)
	made := []call{setMark('b', 5), setMark('a', 0), goTo(6)}
	for _, c := range made {
		onBuffer(b, c)
	}
	hold(t, "P15.4: marks are no group", b, "xyabcd", 6, "a0 b5", 1, 0, 0)
	b.Undo()
	hold(t, "P15.4, P15.6: Undo behind marks", b, "abcd", 1, "a2", 0, 1, 0)
	for _, c := range []call{setMark('c', 3), setMark('a', 4), goTo(0)} {
		onBuffer(b, c)
	}
	hold(t, "P15.4: a mark ends no group that can be done again", b, "abcd", 0, "a4 c3", 0, 1, 0)
	b.Redo()
	hold(t, "P15.6: Redo behind marks", b, "xyabcd", 3, "a4", 1, 0, 0)
	b.Undo()
	hold(t, "P15.6: Undo again", b, "abcd", 1, "a2", 0, 1, 0)
	// A mark that is cut away comes back; of a run the marks ahead of its first Do and behind its last one.
	b.SetMark('z', 3)
	onBuffer(b, do(0, true, edit(0, 4, "")))
	hold(t, "P15.5: all is cut", b, "", 0, "a0 z0", 1, 0, 1)
	onBuffer(b, do(1, true, edit(0, 0, "q")))
	onBuffer(b, do(2, true, edit(0, 0, "p")))
	hold(t, "P15.5: typed", b, "pq", 2, "a0 z0", 1, 0, 3)
	b.Undo()
	hold(t, "P15.6: Undo of a run", b, "abcd", 1, "a2 z3", 0, 1, 0)
	b.Redo()
	hold(t, "P15.6: Redo of a run", b, "pq", 2, "a0 z0", 1, 0, 0)
}

// TestUndoLaysNoBoundaries: what was snapped by an edit goes back to where it was, not to where the edit took it.
func TestUndoLaysNoBoundaries(t *testing.T) {
	b := made(t, api.Config{Text: 20, Undo: 9}, reset("abc"), goTo(1), setMark('m', 2), do(-1, false, edit(1, 0, "\u0301"), edit(4, 0, "\u0301")))
	hold(t, "P15.5: snapped", b, "a\u0301b\u0301c", 3, "m6", 1, 0, 0)
	b.Undo()
	hold(t, "P15.6: Undo", b, "abc", 1, "m2", 0, 1, 0)
	b.Redo()
	hold(t, "P15.6: Redo", b, "a\u0301b\u0301c", 3, "m6", 1, 0, 0)
}

func TestBoundZero(t *testing.T) {
	b := buffer.New(api.Config{Text: 100})
	for n := range 45 {
		if e := onBuffer(b, typed(b, "a")); e != api.OK || b.Len() != n+1 || b.Run() != n%20+1 {
			t.Errorf("P15.8: %v, %d bytes, run %d", e, b.Len(), b.Run())
		}
		if undo, redo := b.Groups(); undo != 0 || redo != 0 {
			t.Errorf("P15.8: groups %d and %d", undo, redo)
		}
		refuse(t, "P15.8", b, undo, api.ErrNoUndo)
		refuse(t, "P15.8", b, redo, api.ErrNoRedo)
	}
	b.SetMark('a', 44)
	onBuffer(b, do(-1, false, edit(0, 40, "")))
	hold(t, "P15.8: a Do that is in no run", b, "aaaaa", 5, "a4", 0, 0, 0)
	refuse(t, "P15.8", b, undo, api.ErrNoUndo)
}

// seen is what undo and redo bring back.
type seen struct {
	text, marks string
	cursor      int
}

func see(b *buffer.Buffer) seen { return seen{b.Text(), marksOf(b), b.Cursor()} }

// someGroup makes one new group: a Do, or a run of several, with switches, refusals and looking between its Dos.
func someGroup(t *testing.T, b *buffer.Buffer, next func(int) int, bound int) {
	t.Helper()
	before, _ := b.Groups()
	b.Rest()
	dos := next(3) * next(10)
	for n := 0; n <= dos; n++ {
		text, cursor := b.Text(), -1
		if next(2) == 0 {
			cursor = 0
		}
		edits := []api.Edit{edit(next(len(text)+1), 0, pieces[next(15)]+"+")}
		if len(text) > 40 {
			edits = append(edits, edit(next(5), 30, ""))
		}
		if next(3) == 0 {
			edits = append(edits, edit(0, 1, "\u0301"), edit(1, 0, "\r"))
		}
		if e := b.Do(edits, cursor, dos > 0); e != api.OK {
			t.Fatalf("P15.9: Do(%v): %v", edits, e)
		}
		b.Switch(api.Kind(next(4)))
		b.Go(-1)
		b.Do([]api.Edit{edit(0, 1, "1"), edit(999, 0, "")}, 0, false)
	}
	b.Rest()
	if after, _ := b.Groups(); after != min(before+1, bound) {
		t.Fatalf("P15.9: groups %d behind one more than %d, the bound %d", after, before, bound)
	}
}

// TestThereAndBack: from any point n groups, n Undos and n Redos bring back text, cursor and marks, whatever was done ahead of the point.
func TestThereAndBack(t *testing.T) {
	for seed := range 300 {
		next := numbers(uint64(seed) + 77)
		bound := 1 + next(12)
		b := buffer.New(api.Config{Text: 200, Undo: bound, Store: api.Kind(next(4)), Low: next(30), High: next(60)})
		for range next(60) {
			onBuffer(b, someCall(next, b.Text()))
		}
		// Ahead of the groups the text is made short, so that none of them meets the limit.
		onBuffer(b, do(-1, false, edit(0, max(b.Len()-60, 0), "\n")))
		for b.Undo() == api.OK && next(3) > 0 {
		}
		if b.Len() > 60 {
			b.Reset("a\u0301b")
		}
		for name := range byte(5) {
			b.SetMark('a'+name, next(b.Len()+1))
		}
		b.Go(next(b.Len() + 1))
		n := next(bound) + 1
		points := []seen{see(b)}
		for range n {
			someGroup(t, b, next, bound)
			points = append(points, see(b))
		}
		for rounds := range 2 {
			for i := n - 1; i >= 0; i-- {
				if e := b.Undo(); e != api.OK || see(b) != points[i] {
					t.Fatalf("P15.9, P3: seed %d, round %d: Undo to %d of %d: %v, %#v, want %#v", seed, rounds, i, n, e, see(b), points[i])
				}
				b.Switch(api.Kind(next(4)))
			}
			for i := range n {
				if e := b.Redo(); e != api.OK || see(b) != points[i+1] {
					t.Fatalf("P15.9, P3: seed %d, round %d: Redo to %d of %d: %v, %#v, want %#v", seed, rounds, i+1, n, e, see(b), points[i+1])
				}
				b.Switch(api.Kind(next(4)))
			}
			refuse(t, "P3: all is done again", b, redo, api.ErrNoRedo)
		}
	}
}

// counted holds the store's counts and its backend behind a call against what is wanted.
func counted(t *testing.T, b *buffer.Buffer, c call, text string, moves, forced, edited int, backend api.Kind) {
	t.Helper()
	e := onBuffer(b, c)
	if want := (api.Counts{Moves: moves, Forced: forced, Edited: edited}); e != api.OK || b.Text() != text || b.Counts() != want || b.Backend() != backend {
		t.Errorf("P15.10: %v: %v, %q, counts %v, backend %d, want %q, %v, %d", c, e, b.Text(), b.Counts(), b.Backend(), text, want, backend)
	}
}

// TestCounts: a hybrid's moves between the edits of one Do, Undo or Redo are seen in its counts.
func TestCounts(t *testing.T) {
	const onGap, onRope = api.KindGap, api.KindRope
	b := buffer.New(api.Config{Text: 20, Undo: 9, Low: 2, High: 4})
	counted(t, b, do(-1, false, edit(0, 0, "abc")), "abc", 0, 0, 3, onGap)
	// One edit up to four bytes, and one down to two: to the rope and back.
	counted(t, b, do(-1, false, edit(3, 0, "d"), edit(0, 2, "")), "cd", 2, 0, 6, onGap)
	counted(t, b, undo, "abc", 3, 0, 9, onRope)
	counted(t, b, redo, "cd", 4, 0, 12, onGap)
	// What is passed over isn't done: it moves nothing, and is counted for nothing.
	counted(t, b, switchTo(onRope), "cd", 4, 1, 12, onRope)
	counted(t, b, do(-1, false), "cd", 4, 1, 12, onRope)
	counted(t, b, do(-1, false, edit(0, 0, ""), edit(0, 2, "cd"), edit(2, 0, "")), "cd", 4, 1, 12, onRope)
	counted(t, b, do(-1, false, edit(0, 2, "cd"), edit(1, 1, "e")), "ce", 5, 1, 14, onGap)
	// An edit whose bytes are in part the same is done as it is.
	counted(t, b, do(0, false, edit(0, 2, "ceg")), "ceg", 5, 1, 19, onGap)
	counted(t, b, goTo(1), "ceg", 5, 1, 19, onGap)
	counted(t, b, setMark('a', 1), "ceg", 5, 1, 19, onGap)
	counted(t, b, rest, "ceg", 5, 1, 19, onGap)
	// The deltas of a run are undone one by one.
	counted(t, b, do(-1, true, edit(3, 0, "h")), "cegh", 6, 1, 20, onRope)
	counted(t, b, do(-1, true, edit(0, 1, "xyz")), "xyzegh", 6, 1, 24, onRope)
	counted(t, b, do(-1, true, edit(0, 4, "")), "gh", 7, 1, 28, onGap)
	counted(t, b, undo, "ceg", 8, 1, 37, onRope)
	counted(t, b, redo, "gh", 9, 1, 46, onGap)
	// Put in and cut out again by one Do: two deltas that leave the text as it was.
	counted(t, b, do(-1, false, edit(0, 0, "q"), edit(0, 1, "")), "gh", 9, 1, 48, onGap)
	counted(t, b, undo, "gh", 9, 1, 50, onGap)
	counted(t, b, reset("0123"), "0123", 10, 1, 56, onRope)
	counted(t, b, reset("0123"), "0123", 10, 1, 64, onRope)
	// All is cut and put in at once, so a length of 0 in between, which would move it, is never there.
	counted(t, b, do(-1, false, edit(0, 4, "wxyz")), "wxyz", 10, 1, 72, onRope)
	counted(t, b, undo, "0123", 10, 1, 80, onRope)
	counted(t, b, redo, "wxyz", 10, 1, 88, onRope)
	counted(t, b, reset(""), "", 11, 1, 92, onGap)
	counted(t, b, switchTo(onRope), "", 11, 2, 92, onRope)
	counted(t, b, reset(""), "", 12, 2, 92, onGap)
}

// TestSameOverAllStores: one run of calls over stores of all kinds, with switches put in, answers and shows the same but for counts and backend.
func TestSameOverAllStores(t *testing.T) {
	for seed := range 60 {
		next := numbers(uint64(seed) * 31)
		limit, bound := []int{6, 50, 400}[next(3)], next(9)
		var all []*buffer.Buffer
		for n := range 6 {
			all = append(all, buffer.New(api.Config{Text: limit, Undo: bound, Store: api.Kind(n), Low: 9 * n, High: 20 * n}))
		}
		for range 120 {
			c := someCall(next, all[0].Text())
			if c.name == "Switch" {
				c = rest
			}
			var errors []api.Errno
			var shown []seen
			var runs, undos, redos []int
			for _, b := range all {
				if next(6) == 0 {
					b.Switch(api.Kind(1 + next(2)))
				}
				errors, shown, runs = append(errors, onBuffer(b, c)), append(shown, see(b)), append(runs, b.Run())
				u, r := b.Groups()
				undos, redos = append(undos, u), append(redos, r)
			}
			if len(slices.Compact(errors)) > 1 || len(slices.Compact(shown)) > 1 || len(slices.Compact(runs)) > 1 || len(slices.Compact(undos)) > 1 || len(slices.Compact(redos)) > 1 {
				t.Fatalf("P15.5, R9: seed %d: %v: the stores differ: %v, %#v, runs %v, groups %v and %v", seed, c, errors, shown, runs, undos, redos)
			}
		}
	}
}
