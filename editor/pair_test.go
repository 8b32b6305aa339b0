package editor_test

import (
	"fmt"
	"slices"
	"strings"
	"testing"

	"bodkin/api"
	"bodkin/cluster"
	"bodkin/editor"
)

// numbers answers numbers that look mixed, the same ones at each run.
func numbers(seed uint64) func(below int) int {
	return func(below int) int {
		seed = seed*6364136223846793005 + 1442695040888963407
		return int(seed>>33) % below
	}
}

// action is a command, or a switch to a kind.
type action struct {
	command  api.Command
	to       api.Kind
	switches bool
}

func (a action) String() string {
	if a.switches {
		return fmt.Sprintf("Switch(%d)", a.to)
	}
	c := a.command
	return fmt.Sprintf("Do(%d, count %d, %.40q, %q)", c.Kind, c.Count, c.Text, c.Mark)
}

// promise tells which promise an action is about.
func (a action) promise() string {
	if a.switches {
		return "P23.4"
	}
	return "P23.2, P23.3"
}

// one is a command of that kind, once.
func one(k api.CommandKind) action { return many(k, 1) }

// many is a command of that kind with a count.
func many(k api.CommandKind, count int) action {
	return action{command: api.Command{Kind: k, Count: count}}
}

// put inserts text, once.
func put(text string) action { return puts(text, 1) }

// puts inserts text with a count.
func puts(text string, count int) action {
	return action{command: api.Command{Kind: api.DoInsert, Count: count, Text: text}}
}

func paste(text string) action {
	return action{command: api.Command{Kind: api.DoPaste, Count: 1, Text: text}}
}

// mark is a command of that kind with a mark's name.
func mark(k api.CommandKind, name byte) action {
	return action{command: api.Command{Kind: k, Count: 1, Mark: name}}
}

func switchTo(to api.Kind) action { return action{to: to, switches: true} }

// line puts text and accepts it.
func line(text string) []action { return []action{put(text), one(api.DoAccept)} }

// all lays lists of actions behind one another.
func all(lists ...[]action) []action { return slices.Concat(lists...) }

// these is a list of actions.
func these(list ...action) []action { return list }

// pair is an editor and the plain one that is kept beside it.
type pair struct {
	e *editor.Editor
	p *plain
	// done is what was done, to be told where something is wrong.
	done []action
}

func newPair(c api.Config) *pair {
	return &pair{e: editor.New(c), p: newPlain(c)}
}

// told is what an editor tells of itself, but for its lists, in one that can be compared.
type told struct {
	text, prompt                    string
	searching                       bool
	cursor, undo, redo, place, goal int
	counts                          api.Counts
}

func (a told) String() string {
	return fmt.Sprintf("%.200q, prompt %.99q, searching %v, cursor %d, groups %d and %d, place %d, goal %d, counts %v", a.text, a.prompt, a.searching, a.cursor, a.undo, a.redo, a.place, a.goal, a.counts)
}

func tell(e *editor.Editor) told {
	undo, redo := e.Groups()
	return told{e.Text(), e.Prompt(), e.Searching(), e.Cursor(), undo, redo, e.Place(), e.Goal(), e.Counts()}
}

func (p *plain) tell() told {
	return told{p.text(), p.promptNow(), p.searching, p.cursor(), len(p.undos), len(p.redos), p.place, p.goal, p.counts}
}

// look holds all that P23.1 lists against the plain editor.
func (x *pair) look(t *testing.T, promise string) {
	t.Helper()
	if got, want := tell(x.e), x.p.tell(); got != want {
		t.Fatalf("%s: behind %v: %v, want %v", promise, x.done, got, want)
	}
	if got, want := x.e.Marks(), x.p.marks(); !slices.Equal(got, want) {
		t.Fatalf("%s: behind %v: marks %v, want %v", promise, x.done, got, want)
	}
	if got, want := x.e.Kills(), x.p.list(); !slices.Equal(got, want) {
		t.Fatalf("%s: behind %v: kills %.200q, want %.200q", promise, x.done, got, want)
	}
	if got, want := x.e.Entries(), x.p.entries; !slices.Equal(got, want) {
		t.Fatalf("%s: behind %v: entries %.200q, want %.200q", promise, x.done, got, want)
	}
}

// atBoundaries holds the cursor and the marks against R8.
func (x *pair) atBoundaries(t *testing.T) {
	t.Helper()
	text := x.e.Text()
	for _, m := range append(x.e.Marks(), api.Mark{Name: '|', At: x.e.Cursor()}) {
		if !cluster.Boundary(text, m.At) {
			t.Fatalf("R8: behind %v: %q at %d of %q", x.done, m.Name, m.At, text)
		}
	}
}

// act does an action on both, and holds the answers against each other.
func (x *pair) act(t *testing.T, a action) {
	t.Helper()
	x.done = append(x.done, a)
	if a.switches {
		if got, want := x.e.Switch(a.to), x.p.switchStore(a.to); got != want {
			t.Fatalf("P23.4: behind %v: %v, want %v", x.done, got, want)
		}
		return
	}
	line, accepted, err := x.e.Do(a.command)
	if got, want := (answer{line, accepted, err}), x.p.do(a.command); got != want {
		t.Fatalf("%s: behind %v: %v, want %v", a.promise(), x.done, got, want)
	}
}

// do does actions on both, and holds what they answer and become against each other.
func (x *pair) do(t *testing.T, actions ...action) {
	t.Helper()
	for _, a := range actions {
		x.act(t, a)
		x.look(t, a.promise())
	}
}

// begun does actions without looking: what they are is held elsewhere.
func (x *pair) begun(t *testing.T, actions []action) *pair {
	t.Helper()
	for _, a := range actions {
		x.act(t, a)
	}
	return x
}

// made answers an editor on which actions were done.
func made(t *testing.T, c api.Config, actions ...action) *editor.Editor {
	t.Helper()
	return newPair(c).begun(t, actions).e
}

// seen holds what is seen of an editor against answers that are written down. The marks are told as "@0 b12".
func seen(t *testing.T, of string, e *editor.Editor, text string, cursor int, marks string, undo, redo int) {
	t.Helper()
	var list []string
	for _, m := range e.Marks() {
		list = append(list, fmt.Sprintf("%c%d", m.Name, m.At))
	}
	u, r := e.Groups()
	if e.Text() != text || e.Cursor() != cursor || strings.Join(list, " ") != marks || u != undo || r != redo {
		t.Errorf("%s: %.99q, cursor %d, marks %v, groups %d and %d, want %.99q, %d, %s, %d, %d", of, e.Text(), e.Cursor(), list, u, r, text, cursor, marks, undo, redo)
	}
}

// answers does an action and holds its error against the one that is written down.
func answers(t *testing.T, e *editor.Editor, a action, want api.Errno) {
	t.Helper()
	line, accepted, err := e.Do(a.command)
	if err != want || accepted != (a.command.Kind == api.DoAccept) || !accepted && line != "" {
		t.Errorf("%s: %v: %q, %v, %v, want %v", a.promise(), a, line, accepted, err, want)
	}
}
