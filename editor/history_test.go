package editor_test

import (
	"math"
	"slices"
	"testing"

	"bodkin/api"
	"bodkin/editor"
)

// This file has accepted lines and the walk through the history, with the answers written down.

// accepts accepts, and holds the line and the entries.
func accepts(t *testing.T, e *editor.Editor, want string, entries ...string) {
	t.Helper()
	line, accepted, err := e.Do(one(api.DoAccept).command)
	if line != want || !accepted || err != api.OK {
		t.Errorf("P23.2: DoAccept: %q, %v, %v, want %q", line, accepted, err, want)
	}
	if !slices.Equal(e.Entries(), entries) || e.Place() != len(entries) {
		t.Errorf("P23.2: DoAccept: entries %q, place %d, want %q", e.Entries(), e.Place(), entries)
	}
	seen(t, "P23.2: DoAccept", e, "", 0, "", 0, 0)
}

// stands holds text, cursor and place.
func stands(t *testing.T, e *editor.Editor, a action, text string, cursor, place int) {
	t.Helper()
	if e.Text() != text || e.Cursor() != cursor || e.Place() != place {
		t.Errorf("P23.2: behind %v: %q, cursor %d, place %d, want %q, %d, %d", a, e.Text(), e.Cursor(), e.Place(), text, cursor, place)
	}
}

// TestAccept has the empty text, a line twice, the bound, and lines that aren't kept.
func TestAccept(t *testing.T) {
	e := editor.New(api.Config{Text: 20, History: 3, Undo: 9, Kill: 9})
	type typed struct {
		text    string
		entries []string
	}
	for _, x := range []typed{
		{"", nil},
		{"a", []string{"a"}},
		{"a", []string{"a"}},
		{"", []string{"a"}},
		{"b", []string{"a", "b"}},
		{"a", []string{"a", "b", "a"}},
		{"a\n\xff", []string{"b", "a", "a\n\xff"}},
		{"a\n\xff", []string{"b", "a", "a\n\xff"}},
		{"c", []string{"a", "a\n\xff", "c"}},
		{"12345678901234567890", []string{"a\n\xff", "c", "12345678901234567890"}},
	} {
		answers(t, e, paste(x.text), api.OK)
		answers(t, e, mark(api.DoSetMark, 'a'), api.OK)
		accepts(t, e, x.text, x.entries...)
	}
	e = editor.New(api.Config{Text: 20, Undo: 9})
	for _, text := range []string{"a", "", "b"} {
		answers(t, e, paste(text), api.OK)
		accepts(t, e, text)
		for _, k := range []api.CommandKind{api.DoHistoryBack, api.DoHistoryForward} {
			answers(t, e, one(k), api.ErrNoHistory)
		}
	}
	e = editor.New(api.Config{Text: 20, Undo: 9, History: 1})
	for _, text := range []string{"a", "b", "c"} {
		answers(t, e, paste(text), api.OK)
		accepts(t, e, text, text)
	}
}

// TestAcceptInAWalk: what is accepted is the text, wherever the walk is, and the drafts are gone then.
func TestAcceptInAWalk(t *testing.T) {
	e := made(t, roomy(), all(line("one"), line("two"), these(put("now"), one(api.DoHistoryBack), put("!"), one(api.DoHistoryBack)))...)
	accepts(t, e, "one", "one", "two", "one")
	answers(t, e, many(api.DoHistoryBack, 2), api.OK)
	stands(t, e, many(api.DoHistoryBack, 2), "two", 3, 1)
	accepts(t, e, "two", "one", "two", "one", "two")
	answers(t, e, one(api.DoHistoryBack), api.OK)
	accepts(t, e, "two", "one", "two", "one", "two")
	answers(t, e, one(api.DoHistoryForward), api.ErrNoHistory)
}

// TestWalk goes beyond both ends, by counts, with drafts kept at each place.
func TestWalk(t *testing.T) {
	type walked struct {
		a      action
		err    api.Errno
		text   string
		cursor int
		place  int
	}
	e := made(t, roomy(), all(line("one"), line("two"), line("three"))...)
	for _, x := range []walked{
		{one(api.DoHistoryForward), api.ErrNoHistory, "", 0, 3},
		{put("now"), api.OK, "now", 3, 3},
		{many(api.DoHistoryBack, 2), api.OK, "two", 3, 1},
		{put("2"), api.OK, "two2", 4, 1},
		{one(api.DoTextStart), api.OK, "two2", 0, 1},
		{many(api.DoHistoryBack, 9), api.OK, "one", 3, 0},
		{one(api.DoHistoryBack), api.ErrNoHistory, "one", 3, 0},
		{many(api.DoHistoryBack, math.MaxInt), api.ErrNoHistory, "one", 3, 0},
		{put("1"), api.OK, "one1", 4, 0},
		{one(api.DoLeft), api.OK, "one1", 3, 0},
		{one(api.DoHistoryBack), api.ErrNoHistory, "one1", 3, 0},
		{many(api.DoHistoryForward, math.MinInt), api.OK, "two2", 4, 1},
		{many(api.DoHistoryForward, 0), api.OK, "three", 5, 2},
		{many(api.DoHistoryForward, 1001), api.OK, "now", 3, 3},
		{one(api.DoHistoryForward), api.ErrNoHistory, "now", 3, 3},
		{many(api.DoHistoryBack, 1000), api.OK, "one1", 4, 0},
		{many(api.DoDeleteLeft, 9), api.OK, "", 0, 0},
		{many(api.DoHistoryForward, 3), api.OK, "now", 3, 3},
		{many(api.DoHistoryBack, 3), api.OK, "", 0, 0},
		{many(api.DoHistoryForward, 2), api.OK, "three", 5, 2},
		{one(api.DoUndo), api.ErrNoUndo, "three", 5, 2},
	} {
		answers(t, e, x.a, x.err)
		stands(t, e, x.a, x.text, x.cursor, x.place)
	}
	if want := []string{"one", "two", "three"}; !slices.Equal(e.Entries(), want) {
		t.Errorf("P23.2: the walk changes entries: %q", e.Entries())
	}
}

// TestWalkAndMarks: a step of the history takes marks and groups along, a refused one leaves them.
func TestWalkAndMarks(t *testing.T) {
	begun := all(line("one"), these(put("ab"), mark(api.DoSetMark, 'a'), mark(api.DoSetMark, '@'), put("c"), put("d"), one(api.DoUndo)))
	e := made(t, roomy(), begun...)
	seen(t, "P23.2: ahead of a step", e, "ab", 2, "@2 a2", 1, 1)
	answers(t, e, one(api.DoHistoryForward), api.ErrNoHistory)
	seen(t, "P23.2: a refused step", e, "ab", 2, "@2 a2", 1, 1)
	answers(t, e, one(api.DoHistoryBack), api.OK)
	seen(t, "P23.2: a step", e, "one", 3, "", 0, 0)
	answers(t, e, mark(api.DoSetMark, 'b'), api.OK)
	answers(t, e, put("x"), api.OK)
	seen(t, "P23.2: an entry that is edited", e, "onex", 4, "b3", 1, 0)
	answers(t, e, one(api.DoHistoryBack), api.ErrNoHistory)
	seen(t, "P23.2: a refused step", e, "onex", 4, "b3", 1, 0)
	answers(t, e, one(api.DoHistoryForward), api.OK)
	seen(t, "P23.2: a step forward", e, "ab", 2, "", 0, 0)
}

// TestWalkOfMany has MostHistory entries, and a count that is MostCount at most.
func TestWalkOfMany(t *testing.T) {
	var lines []string
	e := editor.New(roomy())
	for n := range 1005 {
		text := string(rune('a'+n%26)) + string(rune('a'+n/26))
		lines = append(lines, text)
		answers(t, e, paste(text), api.OK)
		answers(t, e, one(api.DoAccept), api.OK)
	}
	if !slices.Equal(e.Entries(), lines[5:]) {
		t.Errorf("P23.2: %d entries", len(e.Entries()))
	}
	answers(t, e, many(api.DoHistoryBack, 999), api.OK)
	stands(t, e, many(api.DoHistoryBack, 999), lines[6], 2, 1)
	answers(t, e, many(api.DoHistoryBack, math.MaxInt), api.OK)
	stands(t, e, one(api.DoHistoryBack), lines[5], 2, 0)
	answers(t, e, many(api.DoHistoryForward, math.MaxInt), api.OK)
	stands(t, e, many(api.DoHistoryForward, math.MaxInt), "", 0, 1000)
}
