package editor_test

import (
	"strings"
	"testing"

	"bodkin/api"
)

// everyAction lists actions of all kinds in their ways, for texts of few bytes.
func everyAction() []action {
	list := []action{
		one(api.DoNothing), one(api.DoRepaint), one(api.DoAbort), one(api.DoUnbound), one(41), one(-1), one(1 << 40),
		put("p"), put("\u0301"), put("\xcc"), put("\r"), put(""), put("b\n"), puts("q", 2), puts("r", 0), puts("123456789", 3), puts("x", 1<<40),
		paste("p"), paste(""), paste("u v"), paste("1234567890123456789012345"),
		one(api.DoNewline), many(api.DoNewline, 2), many(api.DoNewline, 99), one(api.DoAccept), many(api.DoAccept, 3),
		one(api.DoKillRegion), one(api.DoCopyRegion), one(api.DoYank), many(api.DoYank, 3), one(api.DoYankPop), one(api.DoExchange),
		mark(api.DoSetMark, '@'), mark(api.DoSetMark, 'b'), mark(api.DoSetMark, 'A'), mark(api.DoGoMark, '@'), mark(api.DoGoMark, 'a'), mark(api.DoGoMark, 'c'), mark(api.DoGoMark, 0),
		one(api.DoSearch), many(api.DoSearch, 2), switchTo(api.KindGap), switchTo(api.KindRope), switchTo(api.KindHybrid), switchTo(-9),
	}
	for k := api.DoLeft; k <= api.DoTextEnd; k++ {
		list = append(list, one(k))
	}
	for _, k := range []api.CommandKind{
		api.DoLeft, api.DoWordRight, api.DoUp, api.DoDown, api.DoDeleteRight, api.DoDeleteLeft, api.DoKillWordRight, api.DoKillWordLeft, api.DoKillLineEnd, api.DoKillLineStart,
		api.DoTransposeChars, api.DoTransposeWords, api.DoUpperWord, api.DoLowerWord, api.DoCapitalWord, api.DoUndo, api.DoRedo, api.DoHistoryBack, api.DoHistoryForward,
	} {
		list = append(list, one(k), many(k, 2))
	}
	return append(list, many(api.DoUndo, -5), many(api.DoRedo, 1000), many(api.DoHistoryBack, 1001), many(api.DoHistoryForward, 1<<40))
}

// probes lists actions by which is seen what the one ahead has ended.
func probes() []action {
	return []action{
		put("y"), put("\xff"), puts("y", 2), one(api.DoKillWordLeft), one(api.DoKillLineEnd), one(api.DoYank), one(api.DoYankPop), one(api.DoDown), one(api.DoUp),
		one(api.DoUndo), many(api.DoUndo, 1000), many(api.DoRedo, 1000), mark(api.DoGoMark, 'a'), one(api.DoKillRegion), one(api.DoHistoryBack), one(api.DoHistoryForward),
		one(api.DoSearch), one(api.DoDeleteLeft), one(api.DoAbort), one(api.DoNothing), one(api.DoAccept), switchTo(api.KindRope),
	}
}

// beginnings lists what may have been done ahead of all else.
func beginnings() map[string][]action {
	lines := all(line("a bc"), line("xb\u0301 b"), line("a bc"), line("zb"))
	marked := these(put("bc"), mark(api.DoSetMark, '@'), put(" de\u0301\n"), mark(api.DoSetMark, 'a'), put("f\u4e00g\nh"))
	killed := all(marked, these(one(api.DoKillWordLeft), one(api.DoKillWordLeft), one(api.DoLeft), one(api.DoKillLineStart), one(api.DoTextStart), one(api.DoKillWordRight)))
	up := all(marked, these(one(api.DoUp), one(api.DoUp)))
	walked := all(lines, these(put("typed"), one(api.DoHistoryBack), put("!"), one(api.DoHistoryBack), put("?")))
	hit := all(lines, these(put("b d"), one(api.DoLeft), mark(api.DoSetMark, 'a'), put("x"), one(api.DoSearch), put("b")))
	return map[string][]action{
		"nothing":                   nil,
		"typed units":               these(put("b"), put("c"), put("\xff")),
		"a text of lines":           marked,
		"lines, the cursor in them": all(marked, these(many(api.DoLeft, 4))),
		"kills":                     killed,
		"a yank":                    all(killed, these(one(api.DoYank))),
		"a yank, changed":           all(killed, these(one(api.DoYank), one(api.DoYankPop))),
		"a way up":                  up,
		"a way up, undone":          all(up, these(put("xy"), put("z"), many(api.DoUndo, 2))),
		"accepted lines":            lines,
		"a walk":                    walked,
		"a walk back":               all(walked, these(one(api.DoHistoryForward))),
		"a search":                  all(walked, these(one(api.DoSearch))),
		"a search, nothing found":   all(these(put("b"), put("c"), one(api.DoLeft), one(api.DoSearch), put("b"))),
		"a hit":                     hit,
		"a hit, grown":              all(hit, these(put("\u0301 b"))),
		"an older hit":              all(hit, these(one(api.DoSearch))),
		"a hit in a walk":           all(walked, these(one(api.DoSearch), put("b"), one(api.DoSearch))),
	}
}

// configs lists configs of all kinds of stores, with low limits and bounds.
func configs() []api.Config {
	return []api.Config{
		{Text: 20, Kill: 3, History: 9, Undo: 9, Store: api.KindGap, Prompt: "> "},
		{Text: 24, Kill: 2, History: 3, Undo: 2, Store: api.KindRope, Prompt: "\xff\n"},
		{Text: 22, Kill: 9, History: 4, Undo: 3, Store: api.KindHybrid, Low: 3, High: 9},
		{Text: 20, Kill: 1, History: 1, Undo: 1, Store: 7, Low: 0, High: 0},
		{Text: 20, Kill: 0, History: 0, Undo: 0},
	}
}

// TestEveryBeginning has every action behind every beginning, over every config, and each probe behind it.
func TestEveryBeginning(t *testing.T) {
	for name, begun := range beginnings() {
		t.Run(name, func(t *testing.T) {
			t.Parallel()
			for _, c := range configs() {
				newPair(c).do(t, begun...)
				for _, a := range everyAction() {
					for _, b := range probes() {
						x := newPair(c).begun(t, begun)
						x.do(t, a, b)
						x.atBoundaries(t)
					}
				}
			}
		})
	}
}

// TestEveryTwo has every two actions behind every beginning, over one config, and then all groups undone and done again.
func TestEveryTwo(t *testing.T) {
	for name, begun := range beginnings() {
		t.Run(name, func(t *testing.T) {
			t.Parallel()
			for _, a := range everyAction() {
				for _, b := range everyAction() {
					x := newPair(configs()[0]).begun(t, begun)
					x.do(t, a, b)
					x.throughAll(t)
				}
			}
		})
	}
}

// throughAll undoes all groups and does all again, one by one, so that what is kept in each is seen.
func (x *pair) throughAll(t *testing.T) {
	t.Helper()
	undos := len(x.p.undos)
	for range undos + 1 {
		x.do(t, one(api.DoUndo))
		x.atBoundaries(t)
	}
	for range len(x.p.redos) + 1 {
		x.do(t, one(api.DoRedo))
	}
}

// pieces are what mixed texts are made of: clusters of all classes, whole and in parts.
var pieces = []string{"a", "b", "B", " ", " ", "c", "\u0301", "\u4e00", "\r", "\n", "\n", "\r\n", "\xff", "\xcc", "\x81", "\xe4\xb8", "\x80", "\x07", "", "words of it", strings.Repeat("e\u0301", 9)}

// someText answers up to four pieces.
func someText(next func(int) int) string {
	text := ""
	for range next(4) {
		text += pieces[next(len(pieces))]
	}
	return text
}

// someCount answers a count, most often 1.
func someCount(next func(int) int) int {
	return []int{1, 1, 1, 1, 1, 0, -1, 2, 3, 1 + next(12), 1000, 1001, 1 << 40}[next(13)]
}

// someAction answers an action; most are of kinds that a person gives most often.
func someAction(next func(int) int) action {
	a := action{command: api.Command{Kind: api.CommandKind(next(41)), Count: someCount(next)}}
	switch next(16) {
	case 0, 1, 2, 3:
		a.command.Kind, a.command.Count = api.DoInsert, 1
	case 4, 5:
		a.command.Kind = api.DoLeft + api.CommandKind(next(10))
	case 6:
		a.command.Kind = api.DoKillWordRight + api.CommandKind(next(8))
	case 7:
		a.command.Kind = api.DoUndo + api.CommandKind(next(2))
	case 8:
		a.command.Kind = []api.CommandKind{api.DoAccept, api.DoHistoryBack, api.DoHistoryForward, api.DoSearch}[next(4)]
	case 9:
		return switchTo(api.Kind(next(4)))
	}
	// Of each kind, as a kind that has none of these passes them over.
	a.command.Mark = "@@abcA"[next(6)]
	a.command.Text = pieces[next(len(pieces))]
	if next(4) == 0 {
		a.command.Text = someText(next)
	}
	return a
}

// TestManyActions has long lists of mixed actions over stores of all kinds and thresholds.
func TestManyActions(t *testing.T) {
	for part := range 8 {
		t.Run(string(rune('a'+part)), func(t *testing.T) {
			t.Parallel()
			for seed := range 120 {
				next := numbers(uint64(8*seed + part))
				x := newPair(api.Config{
					Text: []int{0, 5, 40, 300, 1 << 20}[next(5)], Undo: []int{0, 1, 2, 5, 30, 1000}[next(6)],
					Kill: []int{0, 1, 2, 3, 1000, 1 << 40}[next(6)], History: []int{-1, 1, 2, 5, 1000, 1 << 40}[next(6)],
					Store: api.Kind(next(5)), Low: next(40) - 3, High: next(90) - 3, Prompt: someText(next),
				})
				for range 300 {
					x.do(t, someAction(next))
					x.atBoundaries(t)
					x.done = x.done[max(len(x.done)-12, 0):]
				}
				x.throughAll(t)
			}
		})
	}
}
