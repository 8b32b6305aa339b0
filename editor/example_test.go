package editor_test

import (
	"slices"
	"testing"

	"bodkin/api"
	"bodkin/editor"
)

// exampleStep is what an example tells of one command.
type exampleStep struct {
	action action
	err    api.Errno
	text   string
	cursor int
}

// follow does the steps one behind the other.
func follow(t *testing.T, e *editor.Editor, steps ...exampleStep) {
	t.Helper()
	for _, s := range steps {
		if _, _, err := e.Do(s.action.command); err != s.err || e.Text() != s.text || e.Cursor() != s.cursor {
			t.Errorf("examples: %v: %v, %q, %d, want %v, %q, %d", s.action, err, e.Text(), e.Cursor(), s.err, s.text, s.cursor)
		}
	}
}

// tells holds a list that an example tells.
func tells(t *testing.T, of string, got []string, want ...string) {
	t.Helper()
	if !slices.Equal(got, want) {
		t.Errorf("examples: %s: %q, want %q", of, got, want)
	}
}

// groups holds the numbers of groups that an example tells.
func groups(t *testing.T, e *editor.Editor, undo, redo int) {
	t.Helper()
	if u, r := e.Groups(); u != undo || r != redo {
		t.Errorf("examples: Groups: %d, %d, want %d, %d", u, r, undo, redo)
	}
}

// TestExamples has the chapter's examples, as they stand there, each from where the one ahead has led.
func TestExamples(t *testing.T) {
	e := editor.New(api.Config{Text: 20, Kill: 3, History: 3, Undo: 9, Store: api.KindGap, Prompt: "> "})
	follow(t, e,
		exampleStep{put("a"), api.OK, "a", 1},
		exampleStep{put("b"), api.OK, "ab", 2},
		exampleStep{put("c"), api.OK, "abc", 3})
	groups(t, e, 1, 0)
	follow(t, e,
		exampleStep{many(api.DoLeft, 9), api.OK, "abc", 0},
		exampleStep{one(api.DoLeft), api.ErrEdge, "abc", 0},
		exampleStep{one(api.DoDeleteRight), api.OK, "bc", 0},
		exampleStep{one(api.DoUndo), api.OK, "abc", 0},
		exampleStep{one(api.DoUndo), api.OK, "", 0},
		exampleStep{one(api.DoUndo), api.ErrNoUndo, "", 0},
		exampleStep{many(api.DoRedo, 5), api.OK, "bc", 0},

		exampleStep{put("xy "), api.OK, "xy bc", 3},
		exampleStep{one(api.DoKillWordLeft), api.OK, "bc", 0})
	tells(t, "Kills", e.Kills(), "xy ")
	follow(t, e, exampleStep{one(api.DoKillLineEnd), api.OK, "", 0})
	tells(t, "Kills", e.Kills(), "xy bc")
	follow(t, e,
		exampleStep{one(api.DoYank), api.OK, "xy bc", 5},
		exampleStep{one(api.DoYankPop), api.OK, "xy bc", 5},
		exampleStep{one(api.DoLeft), api.OK, "xy bc", 4},
		exampleStep{one(api.DoYankPop), api.ErrNoYank, "xy bc", 4})
	if line, accepted, err := e.Do(one(api.DoAccept).command); line != "xy bc" || !accepted || err != api.OK || e.Text() != "" || e.Cursor() != 0 {
		t.Errorf("examples: DoAccept: %q, %v, %v, then %q, %d", line, accepted, err, e.Text(), e.Cursor())
	}
	tells(t, "Entries", e.Entries(), "xy bc")
	follow(t, e,
		exampleStep{put("q"), api.OK, "q", 1},
		exampleStep{one(api.DoHistoryBack), api.OK, "xy bc", 5},
		exampleStep{one(api.DoHistoryBack), api.ErrNoHistory, "xy bc", 5},
		exampleStep{one(api.DoHistoryForward), api.OK, "q", 1})
	groups(t, e, 0, 0)
	exampleOfASearch(t, e)
}

// exampleOfASearch has the last of the examples.
func exampleOfASearch(t *testing.T, e *editor.Editor) {
	t.Helper()
	prompt := func(want string) {
		t.Helper()
		if e.Prompt() != want {
			t.Errorf("examples: Prompt: %q, want %q", e.Prompt(), want)
		}
	}
	prompt("> ")
	follow(t, e, exampleStep{one(api.DoSearch), api.OK, "q", 1})
	prompt(`(search ""): `)
	follow(t, e, exampleStep{put("c"), api.OK, "xy bc", 4})
	prompt(`(search "c"): `)
	follow(t, e,
		exampleStep{put("z"), api.ErrNotFound, "xy bc", 4},
		exampleStep{one(api.DoSearch), api.ErrNotFound, "xy bc", 4},
		exampleStep{one(api.DoAbort), api.OK, "q", 1})
	prompt("> ")
	follow(t, e,
		exampleStep{one(api.DoSearch), api.OK, "q", 1},
		exampleStep{put("y"), api.OK, "xy bc", 1},
		exampleStep{one(api.DoRight), api.OK, "xy bc", 2})
	if e.Place() != 0 || e.Searching() {
		t.Errorf("examples: Place %d, Searching %v", e.Place(), e.Searching())
	}
}

// TestReadme has what README.md shows of this package.
func TestReadme(t *testing.T) {
	e := editor.New(api.Config{Text: 100, Kill: 5, History: 5, Undo: 10, Store: api.KindGap, Prompt: "> "})
	follow(t, e,
		exampleStep{put("make all"), api.OK, "make all", 8},
		exampleStep{one(api.DoKillWordLeft), api.OK, "make ", 5})
	tells(t, "Kills", e.Kills(), "all")
	follow(t, e, exampleStep{one(api.DoKillWordLeft), api.OK, "", 0})
	tells(t, "Kills", e.Kills(), "make all")
	follow(t, e,
		exampleStep{one(api.DoYank), api.OK, "make all", 8},
		exampleStep{one(api.DoUndo), api.OK, "", 0})
	groups(t, e, 3, 1)
	follow(t, e,
		exampleStep{one(api.DoRedo), api.OK, "make all", 8},
		exampleStep{one(api.DoDown), api.ErrEdge, "make all", 8})
	if line, accepted, err := e.Do(api.Command{Kind: api.DoAccept}); line != "make all" || !accepted || err != api.OK {
		t.Errorf("examples: DoAccept: %q, %v, %v", line, accepted, err)
	}
	follow(t, e,
		exampleStep{put("q"), api.OK, "q", 1},
		exampleStep{one(api.DoSearch), api.OK, "q", 1},
		exampleStep{put("all"), api.OK, "make all", 5})
	if e.Prompt() != "(search \"all\"): " {
		t.Errorf("examples: Prompt: %q", e.Prompt())
	}
	follow(t, e,
		exampleStep{one(api.DoAbort), api.OK, "q", 1},
		exampleStep{one(api.DoHistoryBack), api.OK, "make all", 8})
	tells(t, "Entries", e.Entries(), "make all")
	if e.Place() != 0 {
		t.Errorf("examples: Place: %d", e.Place())
	}
	follow(t, e, exampleStep{one(api.DoHistoryForward), api.OK, "q", 1})
	was := tell(e)
	e.Switch(api.KindRope)
	was.counts.Forced++
	if tell(e) != was {
		t.Errorf("examples: Switch: %v, was %v", tell(e), was)
	}
}
