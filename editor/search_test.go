package editor_test

import (
	"math"
	"slices"
	"testing"

	"bodkin/api"
	"bodkin/editor"
)

// This file has searches, with the answers written down.

// sought is what is seen of an editor in a search.
type sought struct {
	a      action
	err    api.Errno
	part   string
	text   string
	cursor int
	marks  int
}

// seek does actions in a search, and holds what is seen behind each; the place and the entries stay.
func seek(t *testing.T, e *editor.Editor, list ...sought) {
	t.Helper()
	place, entries, kills := e.Place(), e.Entries(), e.Kills()
	undo, redo := e.Groups()
	for _, x := range list {
		if x.a.switches {
			if err := e.Switch(x.a.to); err != x.err {
				t.Errorf("P23.4: %v in a search: %v, want %v", x.a, err, x.err)
			}
		} else {
			answers(t, e, x.a, x.err)
		}
		if want := `(search "` + x.part + `"): `; e.Prompt() != want || !e.Searching() {
			t.Errorf("P23.1: behind %v: prompt %q, want %q, searching %v", x.a, e.Prompt(), want, e.Searching())
		}
		if e.Text() != x.text || e.Cursor() != x.cursor || len(e.Marks()) != x.marks {
			t.Errorf("P23.3: behind %v: %q, cursor %d, marks %v, want %q, %d, %d of them", x.a, e.Text(), e.Cursor(), e.Marks(), x.text, x.cursor, x.marks)
		}
		u, r := e.Groups()
		if u != undo || r != redo || e.Place() != place || e.Goal() != -1 || !slices.Equal(e.Entries(), entries) || !slices.Equal(e.Kills(), kills) {
			t.Errorf("P23.3: behind %v: groups %d and %d, place %d, goal %d, entries %q, kills %q", x.a, u, r, e.Place(), e.Goal(), e.Entries(), e.Kills())
		}
	}
}

// searched answers an editor with five entries, a text of two groups with two marks and one group to be done again, a kill, and a search begun.
func searched(t *testing.T) *editor.Editor {
	t.Helper()
	e := made(t, roomy(), all(
		line("make all"), line("ls -l"), line("make e\u0301x"), line("ls lsx"), line("cat \u4e00\xff"),
		these(put("n-"), mark(api.DoSetMark, 'a'), put("o-"), one(api.DoKillLineStart), mark(api.DoSetMark, '@'), put("w-"), put("x-"), one(api.DoUndo), one(api.DoLeft)),
	)...)
	seen(t, "ahead of a search", e, "w-", 1, "@0 a0", 4, 1)
	answers(t, e, one(api.DoSearch), api.OK)
	return e
}

// own is what is seen in a search without a hit: the text, the cursor and the marks of the buffer.
func own(a action, err api.Errno) sought {
	return sought{a, err, "", "w-", 1, 2}
}

// TestEmptyPart has each kind that goes on with a search, with an empty part.
func TestEmptyPart(t *testing.T) {
	e := searched(t)
	seek(t, e,
		own(one(api.DoNothing), api.OK), own(one(api.DoRepaint), api.OK), own(one(api.DoDeleteLeft), api.ErrEdge), own(many(api.DoDeleteLeft, 9), api.ErrEdge),
		own(one(api.DoSearch), api.ErrNotFound), own(put(""), api.OK), own(puts("", math.MaxInt), api.OK), own(paste(""), api.OK),
		own(put("zz"), api.ErrNotFound), own(paste("zz"), api.ErrNotFound), own(puts("l", 3), api.ErrNotFound), own(put("LS"), api.ErrNotFound),
		own(switchTo(api.KindRope), api.OK), own(switchTo(api.KindGap), api.OK), own(switchTo(api.KindHybrid), api.ErrKind), own(switchTo(0), api.ErrKind),
	)
	answers(t, e, one(api.DoAbort), api.OK)
	seen(t, "P23.3: a search that is given up", e, "w-", 1, "@0 a0", 4, 1)
}

// TestHits has a part grown and shortened, and older hits.
func TestHits(t *testing.T) {
	e := searched(t)
	seek(t, e,
		sought{put("l"), api.OK, "l", "ls lsx", 3, 0},
		sought{put("s"), api.OK, "ls", "ls lsx", 3, 0},
		sought{one(api.DoNothing), api.OK, "ls", "ls lsx", 3, 0},
		sought{one(api.DoRepaint), api.OK, "ls", "ls lsx", 3, 0},
		sought{put(""), api.OK, "ls", "ls lsx", 3, 0},
		sought{paste(""), api.OK, "ls", "ls lsx", 3, 0},
		sought{put("q"), api.ErrNotFound, "ls", "ls lsx", 3, 0},
		sought{paste("qq"), api.ErrNotFound, "ls", "ls lsx", 3, 0},
		sought{put(" "), api.OK, "ls ", "ls lsx", 0, 0},
		sought{paste("-l"), api.OK, "ls -l", "ls -l", 0, 0},
		sought{one(api.DoSearch), api.ErrNotFound, "ls -l", "ls -l", 0, 0},
		// The newest again, though the hit was an older one.
		sought{one(api.DoDeleteLeft), api.OK, "ls -", "ls -l", 0, 0},
		sought{many(api.DoDeleteLeft, 9), api.OK, "ls ", "ls lsx", 0, 0},
		sought{one(api.DoDeleteLeft), api.OK, "ls", "ls lsx", 3, 0},
		sought{one(api.DoSearch), api.OK, "ls", "ls -l", 0, 0},
		sought{one(api.DoSearch), api.ErrNotFound, "ls", "ls -l", 0, 0},
		sought{one(api.DoDeleteLeft), api.OK, "l", "ls lsx", 3, 0},
		sought{many(api.DoSearch, 3), api.OK, "l", "ls -l", 4, 0},
		sought{one(api.DoSearch), api.OK, "l", "make all", 7, 0},
		sought{one(api.DoSearch), api.ErrNotFound, "l", "make all", 7, 0},
		// From the hit on, it being the first that is looked at.
		sought{put("l"), api.OK, "ll", "make all", 6, 0},
		sought{one(api.DoDeleteLeft), api.OK, "l", "ls lsx", 3, 0},
		own(one(api.DoDeleteLeft), api.OK), own(one(api.DoDeleteLeft), api.ErrEdge), own(one(api.DoSearch), api.ErrNotFound),
		sought{puts("l", 2), api.OK, "ll", "make all", 6, 0},
		sought{switchTo(api.KindRope), api.OK, "ll", "make all", 6, 0},
		sought{switchTo(9), api.ErrKind, "ll", "make all", 6, 0},
		sought{one(api.DoDeleteLeft), api.OK, "l", "ls lsx", 3, 0},
		own(one(api.DoDeleteLeft), api.OK),
		sought{paste("make"), api.OK, "make", "make e\u0301x", 0, 0},
		sought{one(api.DoSearch), api.OK, "make", "make all", 0, 0},
		sought{put(" "), api.OK, "make ", "make all", 0, 0},
		sought{put("e"), api.ErrNotFound, "make ", "make all", 0, 0},
	)
	answers(t, e, one(api.DoAbort), api.OK)
	seen(t, "P23.3: a search that is given up", e, "w-", 1, "@0 a0", 4, 1)
	if e.Searching() || e.Prompt() != "> " || e.Place() != 5 {
		t.Errorf("P23.3: a search that is given up: %v", tell(e))
	}
	answers(t, e, one(api.DoRedo), api.OK)
	seen(t, "P23.3: a search that is given up", e, "w-x-", 4, "@0 a0", 5, 0)
	answers(t, e, one(api.DoSearch), api.OK)
	if e.Prompt() != `(search ""): ` || e.Text() != "w-x-" {
		t.Errorf("P23.3: the next search: %v", tell(e))
	}
}

// TestClustersOfAPart has parts that begin within a cluster, and ends of parts that are one cluster with what is ahead.
func TestClustersOfAPart(t *testing.T) {
	e := searched(t)
	seek(t, e,
		sought{put("\u0301"), api.OK, "\u0301", "make e\u0301x", 8, 0},
		sought{put("x"), api.OK, "\u0301x", "make e\u0301x", 8, 0},
		sought{one(api.DoDeleteLeft), api.OK, "\u0301", "make e\u0301x", 8, 0},
		own(one(api.DoDeleteLeft), api.OK),
		sought{put("e"), api.OK, "e", "make e\u0301x", 5, 0},
		sought{put("\u0301"), api.OK, "e\u0301", "make e\u0301x", 5, 0},
		own(one(api.DoDeleteLeft), api.OK),
		sought{put("\xb8"), api.OK, "\xb8", "cat \u4e00\xff", 7, 0},
		sought{put("\x80\xff"), api.OK, "\xb8\x80\xff", "cat \u4e00\xff", 7, 0},
		sought{one(api.DoDeleteLeft), api.OK, "\xb8\x80", "cat \u4e00\xff", 7, 0},
		sought{one(api.DoDeleteLeft), api.OK, "\xb8", "cat \u4e00\xff", 7, 0},
		own(one(api.DoDeleteLeft), api.OK),
		sought{put("\xff"), api.OK, "\xff", "cat \u4e00\xff", 7, 0},
		own(one(api.DoDeleteLeft), api.OK),
		sought{put("\xe4"), api.OK, "\xe4", "cat \u4e00\xff", 4, 0},
		sought{put("\xb8"), api.OK, "\xe4\xb8", "cat \u4e00\xff", 4, 0},
		sought{put("\x80"), api.OK, "\u4e00", "cat \u4e00\xff", 4, 0},
		own(one(api.DoDeleteLeft), api.OK),
	)
	answers(t, e, put("\u0301"), api.OK)
	answers(t, e, one(api.DoLineStart), api.OK)
	stands(t, e, one(api.DoLineStart), "make e\u0301x", 0, 2)
	e = made(t, roomy(), all(line("a\r\nb"), these(one(api.DoSearch), put("\n")))...)
	if e.Cursor() != 3 {
		t.Errorf("P23.1: the cursor of a hit within CR LF: %d", e.Cursor())
	}
	answers(t, e, put("b"), api.OK)
	answers(t, e, one(api.DoDeleteLeft), api.OK)
	answers(t, e, one(api.DoUnbound), api.ErrUnbound)
	stands(t, e, one(api.DoUnbound), "a\r\nb", 3, 0)
	e = made(t, roomy(), all(line("a\r\nb"), these(one(api.DoSearch), put("\r\n"), one(api.DoDeleteLeft)))...)
	if e.Prompt() != `(search ""): ` {
		t.Errorf("P23.3: CR LF is one cluster: %q", e.Prompt())
	}
}

// TestKept has each kind that ends a search: it is kept, whether the command is done or refused.
func TestKept(t *testing.T) {
	for _, x := range []struct {
		a      action
		err    api.Errno
		text   string
		cursor int
		marks  string
		undo   int
		place  int
	}{
		{one(api.DoNewline), api.OK, "ls \nlsx", 4, "", 1, 3},
		{one(api.DoLeft), api.OK, "ls lsx", 2, "", 0, 3},
		{many(api.DoRight, 2), api.OK, "ls lsx", 5, "", 0, 3},
		{one(api.DoWordLeft), api.OK, "ls lsx", 0, "", 0, 3},
		{one(api.DoWordRight), api.OK, "ls lsx", 6, "", 0, 3},
		{one(api.DoLineStart), api.OK, "ls lsx", 0, "", 0, 3},
		{one(api.DoLineEnd), api.OK, "ls lsx", 6, "", 0, 3},
		{one(api.DoUp), api.ErrEdge, "ls lsx", 3, "", 0, 3},
		{one(api.DoDown), api.ErrEdge, "ls lsx", 3, "", 0, 3},
		{one(api.DoTextStart), api.OK, "ls lsx", 0, "", 0, 3},
		{one(api.DoTextEnd), api.OK, "ls lsx", 6, "", 0, 3},
		{one(api.DoDeleteRight), api.OK, "ls sx", 3, "", 1, 3},
		{one(api.DoKillWordRight), api.OK, "ls ", 3, "", 1, 3},
		{one(api.DoKillWordLeft), api.OK, "lsx", 0, "", 1, 3},
		{one(api.DoKillLineEnd), api.OK, "ls ", 3, "", 1, 3},
		{one(api.DoKillLineStart), api.OK, "lsx", 0, "", 1, 3},
		{one(api.DoKillRegion), api.ErrNoMark, "ls lsx", 3, "", 0, 3},
		{one(api.DoCopyRegion), api.ErrNoMark, "ls lsx", 3, "", 0, 3},
		{one(api.DoYank), api.OK, "ls n-o-lsx", 7, "", 1, 3},
		{one(api.DoYankPop), api.ErrNoYank, "ls lsx", 3, "", 0, 3},
		{one(api.DoTransposeChars), api.OK, "lsl sx", 4, "", 1, 3},
		{one(api.DoTransposeWords), api.OK, "lsx ls", 6, "", 1, 3},
		{one(api.DoUpperWord), api.OK, "ls LSX", 6, "", 1, 3},
		{one(api.DoLowerWord), api.OK, "ls lsx", 6, "", 0, 3},
		{one(api.DoCapitalWord), api.OK, "ls Lsx", 6, "", 1, 3},
		{mark(api.DoSetMark, 'b'), api.OK, "ls lsx", 3, "b3", 0, 3},
		{mark(api.DoSetMark, 'B'), api.ErrNoMark, "ls lsx", 3, "", 0, 3},
		{mark(api.DoGoMark, 'a'), api.ErrNoMark, "ls lsx", 3, "", 0, 3},
		{one(api.DoExchange), api.ErrNoMark, "ls lsx", 3, "", 0, 3},
		{one(api.DoUndo), api.ErrNoUndo, "ls lsx", 3, "", 0, 3},
		{one(api.DoRedo), api.ErrNoRedo, "ls lsx", 3, "", 0, 3},
		{one(api.DoHistoryBack), api.OK, "make e\u0301x", 9, "", 0, 2},
		{many(api.DoHistoryForward, 9), api.OK, "w-", 2, "", 0, 5},
		{one(api.DoUnbound), api.ErrUnbound, "ls lsx", 3, "", 0, 3},
		{one(41), api.ErrKind, "ls lsx", 3, "", 0, 3},
		{one(-1), api.ErrKind, "ls lsx", 3, "", 0, 3},
	} {
		e := searched(t)
		answers(t, e, put("ls"), api.OK)
		answers(t, e, x.a, x.err)
		seen(t, "P23.3: a hit, kept by "+x.a.String(), e, x.text, x.cursor, x.marks, x.undo, 0)
		if e.Searching() || e.Prompt() != "> " || e.Place() != x.place || len(e.Entries()) != 5 {
			t.Errorf("P23.3: a hit, kept by %v: %v", x.a, tell(e))
		}
		// Without a hit nothing but the search is ended.
		e, other := searched(t), searched(t)
		answers(t, other, one(api.DoAbort), api.OK)
		_, _, err := other.Do(x.a.command)
		answers(t, e, x.a, err)
		if e.Searching() || tell(e) != tell(other) || !slices.Equal(e.Marks(), other.Marks()) || !slices.Equal(e.Kills(), other.Kills()) {
			t.Errorf("P23.3: an empty part, ended by %v: %v, want %v", x.a, tell(e), tell(other))
		}
	}
}

// TestKeptTexts: the text that was there is a draft of its place; the entry that is hit comes back, whatever draft it has.
func TestKeptTexts(t *testing.T) {
	e := made(t, roomy(), all(line("one"), line("two"), line("ten"), these(put("now"), many(api.DoHistoryBack, 2), put("!"), one(api.DoHistoryForward), put("?")))...)
	stands(t, e, put("?"), "ten?", 4, 2)
	answers(t, e, one(api.DoSearch), api.OK)
	answers(t, e, put("w"), api.OK)
	stands(t, e, put("w"), "two", 1, 2)
	answers(t, e, one(api.DoRight), api.OK)
	stands(t, e, one(api.DoRight), "two", 2, 1)
	// The draft "two!" is overwritten by the entry as it stands now.
	answers(t, e, one(api.DoHistoryForward), api.OK)
	stands(t, e, one(api.DoHistoryForward), "ten?", 4, 2)
	answers(t, e, one(api.DoHistoryForward), api.OK)
	stands(t, e, one(api.DoHistoryForward), "now", 3, 3)
	answers(t, e, many(api.DoHistoryBack, 2), api.OK)
	stands(t, e, many(api.DoHistoryBack, 2), "two", 3, 1)
	// The hit may be the very place.
	for _, a := range these(put("#"), one(api.DoSearch), put("t"), put("w"), many(api.DoUndo, 2)) {
		e.Do(a.command)
	}
	stands(t, e, one(api.DoUndo), "two", 0, 1)
	for _, a := range these(put("#"), one(api.DoSearch), put("tw")) {
		e.Do(a.command)
	}
	accepts(t, e, "two", "one", "two", "ten", "two")
}

// TestGivenUp: drafts, place and the draft of the text are as they were ahead of a search that is given up.
func TestGivenUp(t *testing.T) {
	begun := all(line("one"), line("two"), these(put("now"), one(api.DoHistoryBack), put("!")))
	e := made(t, roomy(), all(begun, these(one(api.DoSearch), put("o"), one(api.DoSearch), one(api.DoAbort)))...)
	stands(t, e, one(api.DoAbort), "two!", 4, 1)
	answers(t, e, one(api.DoAbort), api.ErrAbort)
	answers(t, e, one(api.DoUndo), api.OK)
	answers(t, e, one(api.DoRedo), api.OK)
	answers(t, e, one(api.DoHistoryForward), api.OK)
	stands(t, e, one(api.DoHistoryForward), "now", 3, 2)
	answers(t, e, one(api.DoHistoryBack), api.OK)
	stands(t, e, one(api.DoHistoryBack), "two!", 4, 1)
	answers(t, e, one(api.DoHistoryBack), api.OK)
	stands(t, e, one(api.DoHistoryBack), "one", 3, 0)
}

// TestNoEntries has a search through an empty history.
func TestNoEntries(t *testing.T) {
	for _, bound := range []int{0, 3} {
		e := made(t, api.Config{Text: 20, Undo: 9, History: bound}, put("ab"), mark(api.DoSetMark, 'a'), one(api.DoSearch))
		for _, a := range these(put("a"), paste("b"), one(api.DoSearch), puts("", 4)) {
			_, _, err := e.Do(a.command)
			if want := map[bool]api.Errno{true: api.OK, false: api.ErrNotFound}[a.command.Text == "" && a.command.Kind == api.DoInsert]; err != want {
				t.Errorf("P23.3: %v without entries: %v, want %v", a, err, want)
			}
			seen(t, "P23.3: a search without entries", e, "ab", 2, "a2", 1, 0)
		}
		answers(t, e, one(api.DoLeft), api.OK)
		seen(t, "P23.3: a search without a hit, ended", e, "ab", 1, "a2", 1, 0)
	}
}
