package buffer_test

import (
	"slices"
	"testing"

	"bodkin/api"
	"bodkin/buffer"
)

// The chapter's examples, as they stand there.

// shows holds text, cursor and marks against the example.
func shows(t *testing.T, of string, b *buffer.Buffer, text string, cursor int, marks ...api.Mark) {
	t.Helper()
	if b.Text() != text || b.Cursor() != cursor || !slices.Equal(b.Marks(), marks) {
		t.Errorf("examples: %s: %q, cursor %d, marks %v, want %q, %d, %v", of, b.Text(), b.Cursor(), b.Marks(), text, cursor, marks)
	}
}

// answers holds an error against the example.
func answers(t *testing.T, of string, got, want api.Errno) {
	t.Helper()
	if got != want {
		t.Errorf("examples: %s: %v, want %v", of, got, want)
	}
}

func TestExample(t *testing.T) {
	b := buffer.New(api.Config{Text: 10, Undo: 3, Store: api.KindGap})
	do := func(want api.Errno, cursor int, run bool, edits ...api.Edit) {
		t.Helper()
		answers(t, "Do", b.Do(edits, cursor, run), want)
	}
	do(api.OK, -1, false, api.Edit{At: 0, Cut: 0, Put: "ab"})
	shows(t, "ab", b, "ab", 0)
	do(api.OK, 3, true, api.Edit{At: 2, Cut: 0, Put: "c"})
	shows(t, "abc", b, "abc", 3)
	if b.Run() != 1 {
		t.Error("examples: the run of one:", b.Run())
	}
	do(api.OK, 4, true, api.Edit{At: 3, Cut: 0, Put: "d"})
	shows(t, "abcd", b, "abcd", 4)
	if undo, redo := b.Groups(); b.Run() != 2 || undo != 2 || redo != 0 {
		t.Error("examples: the run of two:", b.Run(), undo, redo)
	}
	answers(t, "SetMark", b.SetMark('a', 3), api.OK)
	if b.Run() != 0 {
		t.Error("examples: the run behind SetMark:", b.Run())
	}
	do(api.OK, 1, false, api.Edit{At: 1, Cut: 2, Put: ""})
	shows(t, "ad", b, "ad", 1, api.Mark{Name: 'a', At: 1})
	answers(t, "Undo", b.Undo(), api.OK)
	shows(t, "Undo", b, "abcd", 4, api.Mark{Name: 'a', At: 3})
	answers(t, "Undo of the run", b.Undo(), api.OK)
	shows(t, "Undo of the run", b, "ab", 0)
	answers(t, "Redo of the run", b.Redo(), api.OK)
	shows(t, "Redo of the run", b, "abcd", 4)
	do(api.ErrRange, 0, false, api.Edit{At: 0, Cut: 1, Put: "x"}, api.Edit{At: 9, Cut: 0, Put: "y"})
	shows(t, "out of range", b, "abcd", 4)
	do(api.ErrFull, 0, false, api.Edit{At: 0, Cut: 0, Put: "1234567"})
	shows(t, "too long", b, "abcd", 4)
	undo, redo := b.Groups()
	do(api.OK, 2, false, api.Edit{At: 0, Cut: 1, Put: "a"})
	shows(t, "a for a", b, "abcd", 2)
	if u, r := b.Groups(); u != undo || r != redo {
		t.Error("examples: a group of nothing:", u, r)
	}
	do(api.OK, 2, false, api.Edit{At: 2, Cut: 0, Put: "\xcc\x81"})
	shows(t, "a mark behind b", b, "ab\xcc\x81cd", 4)
}
