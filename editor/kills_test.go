package editor_test

import (
	"slices"
	"strings"
	"testing"

	"bodkin/api"
	"bodkin/editor"
)

// This file has kills, yanks and what is put together of them, with the answers written down.

// killed holds the kills, written with a bar between them.
func killed(t *testing.T, of string, e *editor.Editor, want string) {
	t.Helper()
	if got := strings.Join(e.Kills(), "|"); got != want {
		t.Errorf("P23.2: %s: kills %q, want %q", of, got, want)
	}
}

// TestKills has each kill from one place, done and refused, with counts.
func TestKills(t *testing.T) {
	const text = "ab cd\nef"
	for _, x := range []struct {
		from   int
		a      action
		err    api.Errno
		text   string
		cursor int
		kills  string
	}{
		{0, one(api.DoKillWordRight), api.OK, " cd\nef", 0, "ab"},
		{0, many(api.DoKillWordRight, 2), api.OK, "\nef", 0, "ab cd"},
		{1, many(api.DoKillWordRight, 1000), api.OK, "a", 1, "b cd\nef"},
		{8, one(api.DoKillWordRight), api.ErrEdge, text, 8, ""},
		{5, one(api.DoKillWordLeft), api.OK, "ab \nef", 3, "cd"},
		{4, many(api.DoKillWordLeft, 2), api.OK, "d\nef", 0, "ab c"},
		{0, many(api.DoKillWordLeft, 3), api.ErrEdge, text, 0, ""},
		{3, one(api.DoKillLineEnd), api.OK, "ab \nef", 3, "cd"},
		{5, one(api.DoKillLineEnd), api.OK, "ab cdef", 5, "\n"},
		{3, many(api.DoKillLineEnd, 2), api.OK, "ab ef", 3, "cd\n"},
		{3, many(api.DoKillLineEnd, 9), api.OK, "ab ", 3, "cd\nef"},
		{8, one(api.DoKillLineEnd), api.ErrEdge, text, 8, ""},
		{4, one(api.DoKillLineStart), api.OK, "d\nef", 0, "ab c"},
		{7, many(api.DoKillLineStart, 5), api.OK, "ab cd\nf", 6, "e"},
		{6, one(api.DoKillLineStart), api.ErrEdge, text, 6, ""},
		{0, one(api.DoKillLineStart), api.ErrEdge, text, 0, ""},
		{4, one(api.DoKillRegion), api.ErrNoMark, text, 4, ""},
		{4, one(api.DoCopyRegion), api.ErrNoMark, text, 4, ""},
	} {
		e := at(t, roomy(), text, x.from)
		answers(t, e, x.a, x.err)
		groups := 2
		if x.err != api.OK {
			groups = 1
		}
		seen(t, "P23.2: "+x.a.String(), e, x.text, x.cursor, "", groups, 0)
		killed(t, x.a.String(), e, x.kills)
		if x.err == api.OK {
			answers(t, e, one(api.DoUndo), api.OK)
			seen(t, "P3: "+x.a.String()+" undone", e, text, x.from, "", 1, 1)
			killed(t, "an undone kill", e, x.kills)
		}
	}
}

// TestRegion has the region's mark ahead of the cursor, at it and behind it.
func TestRegion(t *testing.T) {
	for _, x := range []struct {
		mark, cursor int
		err          api.Errno
		text         string
		to           int
		kills        string
	}{
		{1, 4, api.OK, "aef", 1, "bcd"},
		{4, 1, api.OK, "aef", 1, "bcd"},
		{0, 6, api.OK, "", 0, "abcdef"},
		{6, 0, api.OK, "", 0, "abcdef"},
		{3, 3, api.ErrEdge, "abcdef", 3, ""},
		{0, 0, api.ErrEdge, "abcdef", 0, ""},
		{6, 6, api.ErrEdge, "abcdef", 6, ""},
	} {
		for _, count := range []int{0, 1, 3} {
			e := at(t, roomy(), "abcdef", x.mark)
			answers(t, e, mark(api.DoSetMark, '@'), api.OK)
			answers(t, e, one(api.DoTextStart), api.OK)
			for range x.cursor {
				answers(t, e, one(api.DoRight), api.OK)
			}
			answers(t, e, many(api.DoCopyRegion, count), x.err)
			seen(t, "P23.2: DoCopyRegion", e, "abcdef", x.cursor, "@"+string(rune('0'+x.mark)), 1, 0)
			killed(t, "DoCopyRegion", e, x.kills)
			answers(t, e, many(api.DoKillRegion, count), x.err)
			// What was copied is an entry of its own.
			if x.err == api.OK {
				seen(t, "P23.2: DoKillRegion", e, x.text, x.to, "@"+string(rune('0'+x.to)), 2, 0)
				killed(t, "DoKillRegion", e, x.kills+"|"+x.kills)
			}
		}
	}
}

// TestKillsTogether has kills behind one another, and what stands between them.
func TestKillsTogether(t *testing.T) {
	const text = "one two three four five"
	right, left := one(api.DoKillWordRight), one(api.DoKillWordLeft)
	for _, x := range []struct {
		list  []action
		kills string
	}{
		{these(right), " three"},
		{these(right, right), " three four"},
		{these(left), "two"},
		{these(left, left), "one two"},
		{these(right, left, right), "two three four"},
		{these(left, right, left), "one two three"},
		{these(one(api.DoKillLineEnd), one(api.DoKillLineStart)), text},
		{these(one(api.DoKillLineStart), right, one(api.DoKillLineEnd)), text},
		{these(right, one(api.DoDeleteRight), right), "four| three"},
		{these(right, one(api.DoNothing), right), " four| three"},
		{these(right, one(api.DoRepaint), right), " four| three"},
		{these(right, one(api.DoAbort), right), " four| three"},
		{these(right, one(api.DoUnbound), right), " four| three"},
		{these(right, one(99), right), " four| three"},
		{these(right, put(""), right), " four| three"},
		{these(right, put("x"), right), " four| three"},
		{these(right, one(api.DoKillRegion), right), " four| three"},
		{these(right, one(api.DoYankPop), right), " four| three"},
		{these(right, one(api.DoUndo), right), " three| three"},
		{these(right, one(api.DoLineStart), right, right), "one two| three"},
		{these(right, one(api.DoYank), right), " four| three"},
		{these(right, switchTo(api.KindRope), right, switchTo(api.KindGap), switchTo(9), right), " three four five"},
		{these(right, right, right, right, left), "two| three four five"},
		{these(left, left, left, right), " three|one two"},
		{these(left, mark(api.DoSetMark, '@'), right, many(api.DoRight, 2), one(api.DoKillRegion), right), " four| three|two"},
		{these(mark(api.DoSetMark, '@'), right, one(api.DoKillRegion)), " three"},
		{these(many(api.DoLeft, 3), mark(api.DoSetMark, '@'), many(api.DoRight, 3), right, one(api.DoKillRegion), right), "two three four"},
		{these(mark(api.DoSetMark, '@'), many(api.DoRight, 6), one(api.DoCopyRegion), right), " four| three"},
		{these(mark(api.DoSetMark, '@'), many(api.DoRight, 6), one(api.DoCopyRegion), one(api.DoCopyRegion)), " three| three"},
		{these(right, mark(api.DoSetMark, '@'), one(api.DoTextEnd), one(api.DoCopyRegion), left), "five| four five| three"},
		{these(right, one(api.DoAccept), put("x"), left), "x| three"},
		{these(right, one(api.DoSearch), one(api.DoAbort), right), " four| three"},
		{these(right, one(api.DoSearch), right), " four| three"},
	} {
		// Behind "two".
		e := at(t, roomy(), text, 7)
		for _, a := range x.list {
			if a.switches {
				e.Switch(a.to)
			} else {
				e.Do(a.command)
			}
		}
		killed(t, "kills and copies", e, x.kills)
	}
}

// TestYank has the ring empty, with one entry and with three, and what ends the right to change a yank.
func TestYank(t *testing.T) {
	e := at(t, roomy(), "abc", 1)
	answers(t, e, one(api.DoYank), api.ErrNoKill)
	answers(t, e, one(api.DoYankPop), api.ErrNoYank)
	seen(t, "P23.2: nothing to yank", e, "abc", 1, "", 1, 0)
	answers(t, e, one(api.DoKillLineEnd), api.OK)
	for n := range 3 {
		answers(t, e, many(api.DoYank, 7), api.OK)
		seen(t, "P23.2: DoYank", e, "a"+strings.Repeat("bc", n+1), 3+2*n, "", 3+n, 0)
	}
	for range 3 {
		answers(t, e, one(api.DoYankPop), api.OK)
		seen(t, "P23.2: DoYankPop of the one entry makes no group", e, "abcbcbc", 7, "", 5, 0)
	}
}

// threeKills answers an editor with the kills "three", "22" and "1", and the text "ab" with the cursor between.
func threeKills(t *testing.T, c api.Config) *editor.Editor {
	t.Helper()
	e := editor.New(c)
	for _, text := range []string{"1", "22", "three"} {
		for _, a := range these(paste(text), one(api.DoKillLineStart)) {
			answers(t, e, a, api.OK)
		}
	}
	for _, a := range these(put("ab"), one(api.DoAccept), put("ab"), one(api.DoLeft)) {
		answers(t, e, a, api.OK)
	}
	killed(t, "three kills", e, "three|22|1")
	return e
}

func TestYankPop(t *testing.T) {
	e := threeKills(t, roomy())
	answers(t, e, one(api.DoYank), api.OK)
	seen(t, "P23.2: DoYank", e, "athreeb", 6, "", 2, 0)
	for n, x := range []struct {
		text   string
		cursor int
	}{{"a22b", 3}, {"a1b", 2}, {"athreeb", 6}, {"a22b", 3}} {
		answers(t, e, many(api.DoYankPop, 5), api.OK)
		seen(t, "P23.2: DoYankPop", e, x.text, x.cursor, "", 3+n, 0)
	}
	killed(t, "DoYankPop", e, "three|22|1")
	answers(t, e, many(api.DoUndo, 4), api.OK)
	seen(t, "P3: the yank alone", e, "athreeb", 6, "", 2, 4)
	answers(t, e, one(api.DoYankPop), api.ErrNoYank)
	answers(t, e, one(api.DoYank), api.OK)
	e.Switch(api.KindRope)
	answers(t, e, one(api.DoYankPop), api.OK)
	seen(t, "R9: a switch ends no right to change a yank", e, "athree22b", 8, "", 4, 0)
	answers(t, e, one(api.DoYank), api.OK)
	answers(t, e, one(api.DoYankPop), api.OK)
	seen(t, "P23.2: a yank behind a pop begins with the newest", e, "athree2222b", 10, "", 6, 0)
}

// TestYankPopRefused has a pop behind anything but a yank or a pop.
func TestYankPopRefused(t *testing.T) {
	for _, a := range everyAction() {
		if a.switches {
			continue
		}
		e := threeKills(t, api.Config{Text: 20, Kill: 9, History: 9, Undo: 9})
		answers(t, e, one(api.DoYank), api.OK)
		_, _, err := e.Do(a.command)
		was, kills := tell(e), e.Kills()
		_, _, pop := e.Do(one(api.DoYankPop).command)
		may := err == api.OK && (a.command.Kind == api.DoYank || a.command.Kind == api.DoYankPop)
		if may != (pop == api.OK) || !may && pop != api.ErrNoYank {
			t.Errorf("P23.2: DoYankPop behind a yank and %v: %v", a, pop)
		}
		if a.command.Kind == api.DoSearch {
			was.searching, was.prompt = false, ""
		}
		if now := tell(e); !may && (now != was || !slices.Equal(kills, e.Kills())) {
			t.Errorf("P23.2: DoYankPop behind a yank and %v: %v, was %v", a, now, was)
		}
	}
}

// TestYankFull: a yank and a pop that don't fit; behind either there is no yank to change.
func TestYankFull(t *testing.T) {
	c := tight()
	e := made(t, c, paste("1234567890"), one(api.DoKillLineStart), paste("ab"), one(api.DoKillLineStart), put("x"))
	answers(t, e, one(api.DoYank), api.OK)
	seen(t, "P23.2: DoYank", e, "xab", 3, "", 6, 0)
	answers(t, e, one(api.DoYankPop), api.ErrFull)
	seen(t, "P6: DoYankPop", e, "xab", 3, "", 6, 0)
	answers(t, e, one(api.DoYankPop), api.ErrNoYank)
	killed(t, "a pop that doesn't fit", e, "ab|1234567890")
	answers(t, e, put("1234567"), api.OK)
	answers(t, e, one(api.DoYank), api.ErrFull)
	seen(t, "P6: DoYank", e, "xab1234567", 10, "", 7, 0)
	answers(t, e, one(api.DoYankPop), api.ErrNoYank)
	answers(t, e, many(api.DoDeleteLeft, 2), api.OK)
	answers(t, e, one(api.DoYank), api.OK)
	seen(t, "P23.2: a yank that just fits", e, "xab12345ab", 10, "", 9, 0)
	answers(t, e, one(api.DoYankPop), api.ErrFull)
	e = made(t, c, paste("12345678"), one(api.DoKillLineStart), paste("ab"), one(api.DoKillLineStart), put("xy"), one(api.DoTextStart), one(api.DoYank))
	answers(t, e, one(api.DoYankPop), api.OK)
	seen(t, "P23.2: a pop that just fits", e, "12345678xy", 8, "", 7, 0)
}

// TestNoRing: with the bound 0 kills cut, and nothing is kept.
func TestNoRing(t *testing.T) {
	e := made(t, api.Config{Text: 20, Undo: 9}, put("a b c"), one(api.DoKillWordLeft), one(api.DoKillWordLeft))
	seen(t, "P23.2: kills", e, "a ", 2, "", 3, 0)
	killed(t, "the bound 0", e, "")
	answers(t, e, one(api.DoYank), api.ErrNoKill)
	answers(t, e, one(api.DoYankPop), api.ErrNoYank)
}

// TestYankAtBoundaries yanks what makes one cluster with its neighbours: where was yanked is the cursor as it was ahead.
func TestYankAtBoundaries(t *testing.T) {
	e := made(t, roomy(), put("xy"), one(api.DoKillWordLeft), put("\u0301b"), one(api.DoKillLineStart), put("ac"), one(api.DoLeft), one(api.DoYank))
	seen(t, "P23.2: a mark is yanked behind a", e, "a\u0301bc", 4, "", 6, 0)
	answers(t, e, one(api.DoYankPop), api.OK)
	seen(t, "P23.2: and given up", e, "axyc", 3, "", 7, 0)
	e = made(t, roomy(), put("q"), one(api.DoKillWordLeft), put("\r"), one(api.DoKillLineStart), put("a\nb"), many(api.DoLeft, 2), one(api.DoYank))
	seen(t, "R8: CR is yanked ahead of LF", e, "a\r\nb", 3, "", 6, 0)
	answers(t, e, one(api.DoYankPop), api.OK)
	seen(t, "P23.2: and given up", e, "aq\nb", 2, "", 7, 0)
}
