package editor_test

import (
	"math"
	"strings"
	"testing"

	"bodkin/api"
	"bodkin/editor"
)

// This file has what is put into the text, motions, changes and marks outside of a search, with the answers written down.

// roomy is a config with room for whatever these tests do.
func roomy() api.Config {
	return api.Config{Text: 10000, Kill: 9, History: 1000, Undo: 1000, Prompt: "> "}
}

// tight is a config of a text of at most ten bytes.
func tight() api.Config {
	return api.Config{Text: 10, Kill: 9, History: 9, Undo: 9}
}

// TestNew: what a new editor tells, whatever its config, and that looking changes nothing.
func TestNew(t *testing.T) {
	for _, n := range []int{math.MinInt, -1, 0, 1, 20, 1 << 30, math.MaxInt} {
		for _, prompt := range []string{"", "> ", "a\xff\n\u0301"} {
			e := editor.New(api.Config{Text: n, Kill: n, History: n, Undo: n, Store: api.Kind(n), Low: n, High: n, Prompt: prompt, Width: n})
			for range 2 {
				seen(t, "P23.1: New", e, "", 0, "", 0, 0)
				if e.Prompt() != prompt || e.Searching() || len(e.Kills()) > 0 || len(e.Entries()) > 0 || e.Place() != 0 || e.Goal() != -1 || e.Counts() != (api.Counts{}) {
					t.Errorf("P23.1: New of %d: %v, kills %q, entries %q", n, tell(e), e.Kills(), e.Entries())
				}
			}
		}
	}
}

// TestBounds: the bounds as they count, seen by what is kept.
func TestBounds(t *testing.T) {
	for _, x := range []struct{ bound, most int }{{math.MinInt, 0}, {-1, 0}, {0, 0}, {1, 1}, {2, 2}, {999, 999}, {1000, 1000}, {1001, 1000}, {math.MaxInt, 1000}} {
		e := editor.New(api.Config{Text: 5000, Kill: x.bound, History: x.bound, Undo: x.bound})
		for n := range 1003 {
			text := strings.Repeat("x", n%3+1)
			for _, a := range these(paste(text), one(api.DoKillLineStart), paste(text), one(api.DoAccept)) {
				answers(t, e, a, api.OK)
			}
		}
		for range 1003 {
			answers(t, e, paste("x"), api.OK)
		}
		if undo, _ := e.Groups(); undo != x.most || len(e.Kills()) != x.most || len(e.Entries()) != x.most || e.Place() != x.most {
			t.Errorf("P23.1: the bound %d: %d groups, %d kills, %d entries, place %d", x.bound, undo, len(e.Kills()), len(e.Entries()), e.Place())
		}
	}
}

// TestInsert puts nothing, units, clusters and bad bytes behind a unit that was typed, and then types another unit.
func TestInsert(t *testing.T) {
	for _, x := range []struct {
		a      action
		text   string
		cursor int
		groups int
		// and the groups behind the unit.
		behind int
	}{
		{put(""), "ab", 1, 2, 3},
		{puts("", 1000), "ab", 1, 2, 3},
		{paste(""), "ab", 1, 2, 3},
		{put("x"), "axb", 2, 2, 2},
		{puts("x", 0), "axb", 2, 2, 2},
		{puts("x", math.MinInt), "axb", 2, 2, 2},
		{put("\u4e00"), "a\u4e00b", 4, 2, 2},
		{put("\U0001F600"), "a\U0001F600b", 5, 2, 2},
		{put("\u0301"), "a\u0301b", 3, 2, 2},
		{put("\xff"), "a\xffb", 2, 2, 2},
		{put("\n"), "a\nb", 2, 2, 2},
		{put("\x00"), "a\x00b", 2, 2, 2},
		{puts("x", 2), "axxb", 3, 3, 4},
		{puts("\xff", 2), "a\xff\xffb", 3, 3, 4},
		{put("xy"), "axyb", 3, 3, 4},
		{put("e\u0301"), "ae\u0301b", 4, 3, 4},
		{put("\xe4\xb8"), "a\xe4\xb8b", 3, 3, 4},
		{put("\r\n"), "a\r\nb", 3, 3, 4},
		{paste("x"), "axb", 2, 3, 4},
		{paste("\xff"), "a\xffb", 2, 3, 4},
		{paste("x\ny"), "ax\nyb", 4, 3, 4},
		{action{command: api.Command{Kind: api.DoPaste, Count: 3, Text: "x"}}, "axb", 2, 3, 4},
		{one(api.DoNewline), "a\nb", 2, 3, 4},
		{many(api.DoNewline, 3), "a\n\n\nb", 4, 3, 4},
		{action{command: api.Command{Kind: api.DoNewline, Text: "x", Mark: 'a'}}, "a\nb", 2, 3, 4},
	} {
		e := made(t, roomy(), paste("b"), one(api.DoTextStart), put("a"))
		seen(t, "P23.2: a unit", e, "ab", 1, "", 2, 0)
		answers(t, e, x.a, api.OK)
		seen(t, "P23.2: "+x.a.String(), e, x.text, x.cursor, "", x.groups, 0)
		answers(t, e, put("!"), api.OK)
		seen(t, "P23.2: a unit behind "+x.a.String(), e, x.text[:x.cursor]+"!"+x.text[x.cursor:], x.cursor+1, "", x.behind, 0)
	}
}

// TestInsertAndBoundaries puts and cuts what makes one cluster of others: the cursor and the marks go behind it.
func TestInsertAndBoundaries(t *testing.T) {
	e := made(t, roomy(), put("a\nb"), many(api.DoLeft, 2), mark(api.DoSetMark, 'c'), put("\r"))
	seen(t, "R8: CR ahead of LF", e, "a\r\nb", 3, "c1", 2, 0)
	e = made(t, roomy(), put("ab"), one(api.DoLeft), mark(api.DoSetMark, 'c'), put("\u0301"))
	seen(t, "R8: a mark behind a", e, "a\u0301b", 3, "c3", 2, 0)
	e = made(t, roomy(), put("\u0301b"), one(api.DoTextStart), mark(api.DoSetMark, 'c'), put("a"))
	seen(t, "R8: a ahead of a mark", e, "a\u0301b", 3, "c0", 2, 0)
	answers(t, e, one(api.DoUndo), api.OK)
	seen(t, "P3: undone", e, "\u0301b", 0, "c0", 1, 1)
	e = made(t, roomy(), put("a\n\u0301b"), many(api.DoLeft, 2), mark(api.DoSetMark, 'c'), one(api.DoDeleteLeft))
	seen(t, "R8: the newline ahead of a mark is gone", e, "a\u0301b", 3, "c3", 2, 0)
}

// TestRunUpToItsEnd types units: twenty go to a group.
func TestRunUpToItsEnd(t *testing.T) {
	e := editor.New(roomy())
	for n := range 65 {
		answers(t, e, put([]string{"a", "\xff", "\u4e00", "\u0301"}[n%4]), api.OK)
		if undo, redo := e.Groups(); undo != n/20+1 || redo != 0 {
			t.Errorf("P23.2: behind %d units: %d groups, %d to be done again", n+1, undo, redo)
		}
	}
	text := strings.Repeat("a\xff\u4e00\u0301", 16)
	for _, units := range []int{60, 40, 20, 0} {
		answers(t, e, one(api.DoUndo), api.OK)
		if e.Text() != text[:units/4*7] {
			t.Errorf("P23.2: of the first %d units there is %q", units, e.Text())
		}
	}
	answers(t, e, one(api.DoUndo), api.ErrNoUndo)
}

// TestFull: what doesn't fit is refused and changes nothing; with one byte less it fits.
func TestFull(t *testing.T) {
	for _, x := range []struct{ fits, not action }{
		{put("abc"), put("abcd")},
		{puts("a", 3), puts("a", 4)},
		{puts("ab", 1), puts("ab", 2)},
		{put("\u4e00"), put("\U0001F600")},
		{put("\xff"), puts("\xff", 1000)},
		{puts("", math.MaxInt), puts("x", math.MaxInt)},
		{paste("abc"), paste("abcd")},
		{many(api.DoNewline, 3), many(api.DoNewline, 4)},
		{many(api.DoNewline, math.MinInt), many(api.DoNewline, math.MaxInt)},
	} {
		for _, left := range []int{0, 3, 7} {
			e := made(t, tight(), put("1234567"), one(api.DoTextEnd))
			if left > 0 {
				answers(t, e, many(api.DoLeft, left), api.OK)
			}
			answers(t, e, x.not, api.ErrFull)
			seen(t, "P6: "+x.not.String(), e, "1234567", 7-left, "", 1, 0)
			answers(t, e, x.fits, api.OK)
		}
	}
	e := made(t, tight(), put("1234567890"))
	for _, a := range these(put("x"), paste("x"), one(api.DoNewline)) {
		answers(t, e, a, api.ErrFull)
		seen(t, "P6: "+a.String(), e, "1234567890", 10, "", 1, 0)
	}
	e = editor.New(api.Config{Undo: 9})
	answers(t, e, put("x"), api.ErrFull)
	answers(t, e, put(""), api.OK)
	seen(t, "P6: the limit 0", e, "", 0, "", 0, 0)
}

// TestMostBytes has texts that, by their counts, have MostBytes and more: they are refused without being made.
func TestMostBytes(t *testing.T) {
	huge := strings.Repeat("x", 1<<22)
	half, more := huge[:1<<21], huge[:1<<21+1]
	// 325 times this is one byte more than MostBytes.
	part := huge[:3303821]
	e := made(t, api.Config{Text: math.MaxInt, Undo: 9, History: 9}, put("a"))
	used := allocated(func() {
		for _, a := range these(puts(half, 512), puts(half, 513), puts(part, 325), puts(half, 1000), puts(half, math.MaxInt), puts(huge, 256), puts(more, 512)) {
			answers(t, e, a, api.ErrFull)
		}
	})
	seen(t, "P6: MostBytes", e, "a", 1, "", 1, 0)
	if used > 1<<22 {
		t.Errorf("P23.2: of what is refused, %d bytes are made", used)
	}
	e = made(t, api.Config{Text: 1 << 22, Undo: 9, History: 9})
	answers(t, e, puts(half, 3), api.ErrFull)
	for _, a := range these(puts(half, 2), one(api.DoDeleteLeft), put("x"), one(api.DoAccept), one(api.DoSearch)) {
		answers(t, e, a, api.OK)
	}
	used = allocated(func() {
		for _, a := range these(puts(half, 512), puts(huge, 256), puts(more, 511), puts(part, 324), paste(huge+"x")) {
			answers(t, e, a, api.ErrNotFound)
		}
		for _, a := range these(puts(half, 513), puts(huge, 257), puts(more, 512), puts(part, 325), puts(half, math.MaxInt), puts(huge, math.MaxInt)) {
			answers(t, e, a, api.ErrFull)
		}
	})
	if used > 1<<23 {
		t.Errorf("P23.3: of what is refused, %d bytes are made", used)
	}
	answers(t, e, puts("x", math.MaxInt), api.OK)
	if want := `(search "` + strings.Repeat("x", 1000) + `"): `; e.Prompt() != want || e.Cursor() != 1<<22-1000 {
		t.Errorf("P23.3: Prompt of %d bytes, want %d, cursor %d", len(e.Prompt()), len(want), e.Cursor())
	}
	answers(t, e, puts(half, 1), api.OK)
	answers(t, e, puts(half, 1), api.ErrNotFound)
	if e.Cursor() != 1<<21-1000 {
		t.Errorf("P23.3: cursor %d", e.Cursor())
	}
	answers(t, e, puts(huge[:1<<21-1000], 1), api.OK)
	if e.Cursor() != 0 {
		t.Errorf("P23.3: a part that is the whole entry: cursor %d", e.Cursor())
	}
}

// TestMotions has each motion from both ends and from within, with a goal where one is kept.
func TestMotions(t *testing.T) {
	const text = "ab\n\u4e00c d\nef"
	for _, x := range []struct {
		from   int
		a      action
		err    api.Errno
		cursor int
		goal   int
	}{
		{0, one(api.DoLeft), api.ErrEdge, 0, -1},
		{0, one(api.DoWordLeft), api.ErrEdge, 0, -1},
		{0, one(api.DoUp), api.ErrEdge, 0, -1},
		{0, one(api.DoLineStart), api.OK, 0, -1},
		{0, one(api.DoTextStart), api.OK, 0, -1},
		{0, one(api.DoRight), api.OK, 1, -1},
		{0, many(api.DoRight, 4), api.OK, 6, -1},
		{0, many(api.DoRight, 1000), api.OK, 12, -1},
		{0, one(api.DoWordRight), api.OK, 2, -1},
		{0, many(api.DoWordRight, 2), api.OK, 7, -1},
		{0, one(api.DoLineEnd), api.OK, 2, -1},
		{0, many(api.DoLineEnd, 5), api.OK, 2, -1},
		{0, one(api.DoDown), api.OK, 3, 0},
		{0, many(api.DoDown, 2), api.OK, 10, 0},
		{0, many(api.DoDown, 3), api.OK, 10, 0},
		{0, one(api.DoTextEnd), api.OK, 12, -1},
		{1, one(api.DoDown), api.OK, 3, 1},
		{2, one(api.DoDown), api.OK, 6, 2},
		{9, one(api.DoUp), api.OK, 2, 5},
		{9, many(api.DoUp, -3), api.OK, 2, 5},
		{9, one(api.DoDown), api.OK, 12, 5},
		{9, one(api.DoLineStart), api.OK, 3, -1},
		{9, one(api.DoWordLeft), api.OK, 8, -1},
		{9, many(api.DoWordLeft, 2), api.OK, 3, -1},
		{12, one(api.DoRight), api.ErrEdge, 12, -1},
		{12, one(api.DoWordRight), api.ErrEdge, 12, -1},
		{12, one(api.DoDown), api.ErrEdge, 12, -1},
		{12, one(api.DoLineEnd), api.OK, 12, -1},
		{12, one(api.DoTextEnd), api.OK, 12, -1},
		{12, many(api.DoUp, 9), api.OK, 2, 2},
		{12, many(api.DoLeft, math.MaxInt), api.OK, 0, -1},
	} {
		e := at(t, roomy(), text, x.from)
		answers(t, e, x.a, x.err)
		seen(t, "P23.2: "+x.a.String(), e, text, x.cursor, "", 1, 0)
		if e.Goal() != x.goal {
			t.Errorf("P23.2: %v from %d: goal %d, want %d", x.a, x.from, e.Goal(), x.goal)
		}
	}
	e := at(t, roomy(), "abc\nd\n\nefg", 3)
	for _, x := range []struct {
		a      action
		err    api.Errno
		cursor int
		goal   int
	}{
		{one(api.DoDown), api.OK, 5, 3}, {one(api.DoDown), api.OK, 6, 3}, {one(api.DoDown), api.OK, 10, 3}, {one(api.DoDown), api.ErrEdge, 10, -1},
		{one(api.DoLeft), api.OK, 9, -1}, {many(api.DoUp, 2), api.OK, 5, 2}, {switchTo(api.KindRope), api.OK, 5, 2}, {one(api.DoDown), api.OK, 6, 2}, {one(api.DoDown), api.OK, 9, 2},
		{many(api.DoUp, 3), api.OK, 2, 2}, {one(api.DoLineEnd), api.OK, 3, -1}, {many(api.DoDown, 3), api.OK, 10, 3}, {one(api.DoUnbound), api.ErrUnbound, 10, -1},
	} {
		if x.a.switches {
			e.Switch(x.a.to)
		} else {
			answers(t, e, x.a, x.err)
		}
		if e.Cursor() != x.cursor || e.Goal() != x.goal {
			t.Errorf("P23.2: behind %v: cursor %d, goal %d, want %d, %d", x.a, e.Cursor(), e.Goal(), x.cursor, x.goal)
		}
	}
}

// at answers an editor with text, as one group, and the cursor where it is told.
func at(t *testing.T, c api.Config, text string, cursor int) *editor.Editor {
	t.Helper()
	e := made(t, c, paste(text), one(api.DoTextStart))
	for e.Cursor() < cursor {
		answers(t, e, one(api.DoRight), api.OK)
	}
	if e.Cursor() != cursor {
		t.Fatalf("there is no boundary at %d of %q", cursor, text)
	}
	return e
}

// TestChanges has the changes and the case commands at both ends and within.
func TestChanges(t *testing.T) {
	const text = "ab c-d"
	for _, x := range []struct {
		from   int
		a      action
		err    api.Errno
		text   string
		cursor int
	}{
		{0, one(api.DoDeleteRight), api.OK, "b c-d", 0},
		{2, many(api.DoDeleteRight, 3), api.OK, "abd", 2},
		{2, many(api.DoDeleteRight, math.MaxInt), api.OK, "ab", 2},
		{6, one(api.DoDeleteRight), api.ErrEdge, text, 6},
		{6, one(api.DoDeleteLeft), api.OK, "ab c-", 5},
		{4, many(api.DoDeleteLeft, 2), api.OK, "ab-d", 2},
		{4, many(api.DoDeleteLeft, math.MinInt), api.OK, "ab -d", 3},
		{4, many(api.DoDeleteLeft, 5), api.OK, "-d", 0},
		{0, one(api.DoDeleteLeft), api.ErrEdge, text, 0},
		{0, one(api.DoTransposeChars), api.ErrEdge, text, 0},
		{1, many(api.DoTransposeChars, 3), api.OK, "ba c-d", 2},
		{6, one(api.DoTransposeChars), api.OK, "ab cd-", 6},
		{0, one(api.DoTransposeWords), api.OK, "c ab-d", 4},
		{6, many(api.DoTransposeWords, 2), api.OK, "ab d-c", 6},
		{0, one(api.DoUpperWord), api.OK, "AB c-d", 2},
		{1, many(api.DoUpperWord, 2), api.OK, "aB C-d", 4},
		{6, one(api.DoUpperWord), api.ErrEdge, text, 6},
		{0, one(api.DoLowerWord), api.OK, text, 2},
		{6, one(api.DoLowerWord), api.ErrEdge, text, 6},
		{2, many(api.DoCapitalWord, 9), api.OK, "ab C-D", 6},
		{6, one(api.DoCapitalWord), api.ErrEdge, text, 6},
	} {
		for _, marked := range []bool{false, true} {
			e, marks := at(t, roomy(), text, x.from), ""
			if marked {
				// At the beginning no change moves it.
				answers(t, e, one(api.DoTextStart), api.OK)
				answers(t, e, mark(api.DoSetMark, '@'), api.OK)
				for range x.from {
					answers(t, e, one(api.DoRight), api.OK)
				}
				marks = "@0"
			}
			groups := 1
			if x.text != text {
				groups = 2
			}
			answers(t, e, x.a, x.err)
			seen(t, "P23.2: "+x.a.String(), e, x.text, x.cursor, marks, groups, 0)
			answers(t, e, put("x"), api.OK)
			seen(t, "P23.2: a unit behind "+x.a.String(), e, x.text[:x.cursor]+"x"+x.text[x.cursor:], x.cursor+1, marks, groups+1, 0)
			if len(e.Kills()) > 0 {
				t.Errorf("P23.2: %v: kills %q", x.a, e.Kills())
			}
		}
	}
	e := made(t, roomy(), put("A b"), put("x"), one(api.DoUndo), one(api.DoTextStart), one(api.DoUpperWord))
	seen(t, "P23.2: a word that is upper already", e, "A b", 1, "", 1, 1)
	e = made(t, roomy(), put("one word-"), one(api.DoTextStart), mark(api.DoSetMark, 'a'), one(api.DoRight), mark(api.DoSetMark, 'b'), many(api.DoRight, 2), mark(api.DoSetMark, 'c'), one(api.DoTextStart), one(api.DoUpperWord))
	seen(t, "DOC.md: marks within a word go to its beginning", e, "ONE word-", 3, "a0 b0 c3", 2, 0)
	answers(t, e, one(api.DoUndo), api.OK)
	seen(t, "P3: and come back", e, "one word-", 0, "a0 b1 c3", 1, 1)
}

// TestMarks has each name, and each byte that is none.
func TestMarks(t *testing.T) {
	const names = "@abcdefghijklmnopqrstuvwxyz"
	for b := range 256 {
		name := byte(b)
		e := at(t, roomy(), "abc", 2)
		if !strings.Contains(names, string(rune(b))) {
			answers(t, e, mark(api.DoSetMark, name), api.ErrNoMark)
			answers(t, e, mark(api.DoGoMark, name), api.ErrNoMark)
			seen(t, "P23.2: a name that is none", e, "abc", 2, "", 1, 0)
			continue
		}
		answers(t, e, mark(api.DoGoMark, name), api.ErrNoMark)
		answers(t, e, mark(api.DoSetMark, name), api.OK)
		seen(t, "P23.2: DoSetMark", e, "abc", 2, string(rune(b))+"2", 1, 0)
		answers(t, e, one(api.DoTextStart), api.OK)
		answers(t, e, action{command: api.Command{Kind: api.DoGoMark, Count: 5, Text: "x", Mark: name}}, api.OK)
		seen(t, "P23.2: DoGoMark", e, "abc", 2, string(rune(b))+"2", 1, 0)
		answers(t, e, one(api.DoTextStart), api.OK)
		answers(t, e, mark(api.DoSetMark, name), api.OK)
		seen(t, "P23.2: DoSetMark again", e, "abc", 0, string(rune(b))+"0", 1, 0)
		for other := range len(names) {
			if names[other] != name {
				answers(t, e, mark(api.DoGoMark, names[other]), api.ErrNoMark)
			}
		}
	}
}

// TestExchange has the region's mark absent, at the cursor, and elsewhere.
func TestExchange(t *testing.T) {
	e := at(t, roomy(), "abc", 1)
	answers(t, e, mark(api.DoSetMark, 'a'), api.OK)
	answers(t, e, mark(api.DoExchange, 'a'), api.ErrNoMark)
	seen(t, "P23.2: DoExchange without the mark", e, "abc", 1, "a1", 1, 0)
	answers(t, e, mark(api.DoSetMark, '@'), api.OK)
	answers(t, e, one(api.DoExchange), api.OK)
	seen(t, "P23.2: DoExchange at the mark", e, "abc", 1, "@1 a1", 1, 0)
	answers(t, e, one(api.DoTextEnd), api.OK)
	answers(t, e, many(api.DoExchange, 2), api.OK)
	seen(t, "P23.2: DoExchange", e, "abc", 1, "@3 a1", 1, 0)
	answers(t, e, mark(api.DoExchange, 'a'), api.OK)
	seen(t, "P23.2: DoExchange back", e, "abc", 3, "@1 a1", 1, 0)
}

// TestMarksThroughEdits has marks moved by edits, and brought back by undo and redo, whatever was set since.
func TestMarksThroughEdits(t *testing.T) {
	e := at(t, roomy(), "ab cd", 1)
	for _, a := range these(mark(api.DoSetMark, 'a'), many(api.DoRight, 3), mark(api.DoSetMark, '@'), one(api.DoTextStart), put("xy")) {
		answers(t, e, a, api.OK)
	}
	seen(t, "P23.2: marks behind an edit", e, "xyab cd", 2, "@6 a3", 2, 0)
	answers(t, e, one(api.DoKillWordRight), api.OK)
	seen(t, "P23.2: a mark within what is cut", e, "xy cd", 2, "@4 a2", 3, 0)
	for _, a := range these(mark(api.DoSetMark, 'z'), one(api.DoTextEnd), mark(api.DoSetMark, 'a')) {
		answers(t, e, a, api.OK)
	}
	seen(t, "P23.2: marks are no group", e, "xy cd", 5, "@4 a5 z2", 3, 0)
	for _, x := range []struct {
		a      action
		text   string
		cursor int
		marks  string
		undo   int
		redo   int
	}{
		{one(api.DoUndo), "xyab cd", 2, "@6 a3", 2, 1},
		{one(api.DoUndo), "ab cd", 0, "@4 a1", 1, 2},
		{mark(api.DoSetMark, 'b'), "ab cd", 0, "@4 a1 b0", 1, 2},
		{one(api.DoRedo), "xyab cd", 2, "@6 a3", 2, 1},
		{one(api.DoRedo), "xy cd", 2, "@4 a2", 3, 0},
		{many(api.DoUndo, 3), "", 0, "", 0, 3},
		{many(api.DoRedo, 2), "xyab cd", 2, "@6 a3", 2, 1},
	} {
		answers(t, e, x.a, api.OK)
		seen(t, "P3: "+x.a.String(), e, x.text, x.cursor, x.marks, x.undo, x.redo)
	}
}

// TestNoKinds has the kinds that do nothing and those that are none.
func TestNoKinds(t *testing.T) {
	for _, x := range []struct {
		kind api.CommandKind
		err  api.Errno
	}{
		{api.DoNothing, api.OK}, {api.DoRepaint, api.OK}, {api.DoAbort, api.ErrAbort}, {api.DoUnbound, api.ErrUnbound},
		{-1, api.ErrKind}, {41, api.ErrKind}, {42, api.ErrKind}, {77, api.ErrKind}, {256, api.ErrKind}, {math.MinInt, api.ErrKind}, {math.MaxInt, api.ErrKind}, {1<<32 + 1, api.ErrKind},
	} {
		for _, count := range []int{math.MinInt, 0, 1, 2, math.MaxInt} {
			e := at(t, roomy(), "abc", 1)
			answers(t, e, mark(api.DoSetMark, 'a'), api.OK)
			was := tell(e)
			answers(t, e, action{command: api.Command{Kind: x.kind, Count: count, Text: "x", Mark: 'b'}}, x.err)
			if now := tell(e); now != was {
				t.Errorf("P23.2: behind the kind %d: %v, was %v", x.kind, now, was)
			}
			seen(t, "P23.2: a kind that does nothing", e, "abc", 1, "a1", 1, 0)
		}
	}
}
