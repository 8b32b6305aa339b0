package editor_test

import (
	"runtime"
	"slices"
	"strings"
	"testing"
	"unsafe"

	"bodkin/api"
	"bodkin/editor"
)

// This file has what is kept and shared of texts and lists, and editors that are nil.

// allocated answers how many bytes of memory do asks for.
func allocated(do func()) uint64 {
	var ahead, behind runtime.MemStats
	runtime.ReadMemStats(&ahead)
	do()
	runtime.ReadMemStats(&behind)
	return behind.TotalAlloc - ahead.TotalAlloc
}

// heap answers how many bytes are in use.
func heap() int {
	runtime.GC()
	var m runtime.MemStats
	runtime.ReadMemStats(&m)
	return int(m.HeapAlloc)
}

// rooms hands out texts that lie upon bytes which can be written over.
type rooms struct {
	list [][]byte
}

func (r *rooms) text(text string) string {
	room := []byte(text)
	r.list = append(r.list, room)
	return unsafe.String(unsafe.SliceData(room), len(room))
}

// overwrite fills all that was handed out.
func (r *rooms) overwrite() {
	for _, room := range r.list {
		for i := range room {
			room[i] = '#'
		}
	}
}

// TestArgumentsAreNotKept writes over the memory of the texts that an editor was handed, behind each action.
func TestArgumentsAreNotKept(t *testing.T) {
	for kind := range api.Kind(4) {
		var r rooms
		c := api.Config{Text: 99, Kill: 9, History: 9, Undo: 9, Store: kind, Low: 3, High: 10, Prompt: r.text("prompt> ")}
		e := editor.New(c)
		r.overwrite()
		for _, a := range these(
			put("o"), put("n"), put("e"), one(api.DoAccept), paste("another"), one(api.DoKillLineStart), paste("text"), puts("-", 2), one(api.DoSearch), put("o"), paste("n"),
		) {
			a.command.Text = r.text(a.command.Text)
			answers(t, e, a, api.OK)
			r.overwrite()
		}
		if e.Prompt() != `(search "on"): ` || e.Text() != "one" {
			t.Errorf("R3: in a search: %v", tell(e))
		}
		answers(t, e, one(api.DoDeleteLeft), api.OK)
		if e.Prompt() != `(search "o"): ` {
			t.Errorf("R3: in a search: %v", tell(e))
		}
		answers(t, e, one(api.DoAbort), api.OK)
		seen(t, "R3: a text", e, "text--", 6, "", 4, 0)
		if !slices.Equal(e.Kills(), []string{"another"}) || !slices.Equal(e.Entries(), []string{"one"}) || e.Prompt() != "prompt> " {
			t.Errorf("R3: kills %q, entries %q, prompt %q", e.Kills(), e.Entries(), e.Prompt())
		}
		answers(t, e, many(api.DoUndo, 9), api.OK)
		answers(t, e, many(api.DoRedo, 9), api.OK)
		seen(t, "R3: a text that is undone and done again", e, "text--", 6, "", 4, 0)
	}
}

// TestAnswersMayBeWrittenOver: the editor stays as it is, and lists that were answered aren't changed by later calls.
func TestAnswersMayBeWrittenOver(t *testing.T) {
	for name, begun := range beginnings() {
		x := newPair(configs()[0]).begun(t, begun)
		marks, kills, entries := x.e.Marks(), x.e.Kills(), x.e.Entries()
		was := [][]string{slices.Clone(kills), slices.Clone(entries)}
		wasMarks := slices.Clone(marks)
		overwrite := func() {
			list := x.e.Marks()
			list = list[:cap(list)]
			for i := range list {
				list[i] = api.Mark{Name: '#', At: -1}
			}
			for _, texts := range [][]string{x.e.Kills(), x.e.Entries()} {
				texts = texts[:cap(texts)]
				for i := range texts {
					texts[i] = "#"
				}
			}
		}
		overwrite()
		x.look(t, "R3: answers were written over")
		for _, a := range everyAction() {
			x.act(t, a)
			overwrite()
			x.look(t, "R3: answers were written over")
		}
		if !slices.Equal(marks, wasMarks) || !slices.Equal(kills, was[0]) || !slices.Equal(entries, was[1]) {
			t.Errorf("R3: behind %s, what was answered has changed: %v, %q, %q", name, marks, kills, entries)
		}
	}
}

// TestTextsOfAnswers: texts that were answered, and those that were handed in, share no memory.
func TestTextsOfAnswers(t *testing.T) {
	text := strings.Repeat("text ", 9)
	c := api.Config{Text: 99, Kill: 9, History: 9, Undo: 9, Prompt: text}
	e := editor.New(c)
	var texts []string
	tellTexts := func() {
		texts = append(texts, e.Text(), e.Text())
		if !e.Searching() {
			texts = append(texts, e.Prompt(), e.Prompt())
		}
		texts = append(append(append(texts, e.Kills()...), e.Kills()...), append(e.Entries(), e.Entries()...)...)
	}
	texts = append(texts, text)
	answers(t, e, paste(text), api.OK)
	answers(t, e, one(api.DoKillLineStart), api.OK)
	answers(t, e, one(api.DoYank), api.OK)
	tellTexts()
	line, _, _ := e.Do(one(api.DoAccept).command)
	texts = append(texts, line)
	answers(t, e, one(api.DoHistoryBack), api.OK)
	tellTexts()
	answers(t, e, one(api.DoSearch), api.OK)
	answers(t, e, paste(text), api.OK)
	tellTexts()
	answers(t, e, one(api.DoTextEnd), api.OK)
	tellTexts()
	for i, one := range texts {
		for j, other := range texts {
			if one != text || i != j && unsafe.StringData(one) == unsafe.StringData(other) {
				t.Errorf("R3: the texts %d and %d: %q, %q", i, j, one, other)
			}
		}
	}
}

// TestTwoEditors: what is done to one is never seen in the other, made of one config as they are.
func TestTwoEditors(t *testing.T) {
	for seed := range 40 {
		next := numbers(uint64(seed) + 5)
		c := api.Config{Text: 90, Kill: 3, History: 3, Undo: 4, Store: api.Kind(next(4)), Low: 5, High: 20, Prompt: "> "}
		x, y := newPair(c), newPair(c)
		for range 100 {
			x.do(t, someAction(next))
			y.look(t, "R2")
			y.do(t, someAction(next))
			x.look(t, "R2")
		}
	}
}

// TestNothingElseIsKept: of texts that are gone everywhere nothing is kept.
func TestNothingElseIsKept(t *testing.T) {
	const size = 1 << 20
	e := editor.New(api.Config{Text: 4 * size, Store: api.KindGap})
	before := heap()
	for n := range 4 {
		text := strings.Repeat(string(rune('a'+n)), size)
		for _, a := range these(paste(text), one(api.DoKillLineStart), paste(text), mark(api.DoSetMark, '@'), one(api.DoSearch), paste(text), one(api.DoAbort), one(api.DoAccept)) {
			on(e, a)
		}
	}
	if used := heap() - before; used > size/4 {
		t.Errorf("LANGUAGE.md's rule 8: %d bytes are kept of nothing", used)
	}
	runtime.KeepAlive(e)
	e = editor.New(api.Config{Text: 4 * size, Store: api.KindGap, History: 1})
	for _, a := range these(paste(strings.Repeat("a", size)), one(api.DoAccept), one(api.DoSearch), paste(strings.Repeat("a", size-1))) {
		answers(t, e, a, api.OK)
	}
	if used := heap() - before; used > 2*size+size/4 {
		t.Errorf("LANGUAGE.md's rule 8: %d bytes are kept of an entry and a part of %d", used, size)
	}
	answers(t, e, one(api.DoAbort), api.OK)
	if used := heap() - before; used > size+size/4 {
		t.Errorf("LANGUAGE.md's rule 8: %d bytes are kept of an entry of %d", used, size)
	}
	runtime.KeepAlive(e)
}

// TestNil has each call of a nil editor, behind each command and switch.
func TestNil(t *testing.T) {
	var e *editor.Editor
	for _, a := range append(everyAction(), switchTo(1<<40)) {
		if a.switches {
			if err := e.Switch(a.to); err != api.OK {
				t.Errorf("P23.5: %v of nil: %v", a, err)
			}
		} else if line, accepted, err := e.Do(a.command); line != "" || accepted || err != api.OK {
			t.Errorf("P23.5: %v of nil: %q, %v, %v", a, line, accepted, err)
		}
		undo, redo := e.Groups()
		if e.Text() != "" || e.Cursor() != 0 || len(e.Marks()) > 0 || e.Prompt() != "" || e.Searching() || undo != 0 || redo != 0 {
			t.Errorf("P23.5: nil behind %v: %v, marks %v", a, tell(e), e.Marks())
		}
		if len(e.Kills()) > 0 || len(e.Entries()) > 0 || e.Place() != 0 || e.Goal() != 0 || e.Counts() != (api.Counts{}) {
			t.Errorf("P23.5: nil behind %v: kills %q, entries %q, %v", a, e.Kills(), e.Entries(), tell(e))
		}
	}
	x := &pair{p: noPlain()}
	for _, a := range everyAction() {
		x.do(t, a)
	}
}

// TestZero: no call of the zero Editor panics, of which the chapter says nothing else.
func TestZero(t *testing.T) {
	for _, a := range everyAction() {
		for _, b := range everyAction() {
			var e editor.Editor
			on(&e, a)
			on(&e, b)
			if now := tell(&e); now.text != "" || now.cursor != 0 || len(e.Kills()) > 0 || len(e.Entries()) > 0 {
				t.Errorf("R1: the zero Editor behind %v and %v: %v", a, b, now)
			}
		}
	}
}
