package buffer_test

import (
	"runtime"
	"slices"
	"strings"
	"testing"
	"unsafe"

	"bodkin/api"
	"bodkin/buffer"
)

// This file has what is kept and shared of texts and lists.

// onRoom answers a text that lies upon bytes that can be written over.
func onRoom(room []byte) string {
	return unsafe.String(unsafe.SliceData(room), len(room))
}

// TestArgumentsAreLeft: the list of edits, its spare room too, is as it was, whether a Do is done or refused.
func TestArgumentsAreLeft(t *testing.T) {
	for _, cursor := range []int{-1, 0, 999} {
		for kind := range api.Kind(4) {
			room := []api.Edit{edit(0, 0, "ab"), edit(1, 1, "b"), edit(0, 1, "cd"), edit(99, 0, "spare"), edit(-1, -1, "room")}
			was := slices.Clone(room)
			b := buffer.New(api.Config{Text: 20, Undo: 5, Store: kind})
			b.Do(room[:3], cursor, true)
			b.Do(room[:4], cursor, true)
			b.Undo()
			b.Redo()
			if !slices.Equal(room, was) {
				t.Errorf("R3: the edits are now %v, were %v", room, was)
			}
		}
	}
}

// TestArgumentsAreNotKept writes over the memory of the lists and the texts that a buffer was handed.
func TestArgumentsAreNotKept(t *testing.T) {
	for kind := range api.Kind(4) {
		first, second, third := []byte("handed in"), []byte("and"), []byte("more")
		edits := []api.Edit{edit(0, 0, onRoom(second)), edit(3, 0, onRoom(third))}
		b := buffer.New(api.Config{Text: 99, Undo: 5, Store: kind, Low: 3, High: 10})
		b.Reset(onRoom(first))
		b.Do(edits, -1, true)
		b.Do([]api.Edit{edit(0, 7, onRoom(third))}, -1, false)
		for _, room := range [][]byte{first, second, third} {
			for i := range room {
				room[i] = '#'
			}
		}
		edits[0], edits[1] = edit(5, 5, "x"), edit(6, 6, "y")
		for _, want := range []string{"morehanded in", "andmorehanded in", "handed in"} {
			if b.Text() != want {
				t.Errorf("R3: %q, want %q", b.Text(), want)
			}
			b.Undo()
		}
		for _, want := range []string{"andmorehanded in", "morehanded in"} {
			if e := b.Redo(); e != api.OK || b.Text() != want {
				t.Errorf("R3: Redo: %v, %q, want %q", e, b.Text(), want)
			}
		}
	}
}

// TestAnswersMayBeWrittenOver: the buffer stays as it is, what undo brings back too, and answers aren't changed by later calls.
func TestAnswersMayBeWrittenOver(t *testing.T) {
	b := made(t, api.Config{Text: 20, Undo: 5}, reset("abcd"), setMark('a', 1), setMark('c', 3))
	overwrite := func() {
		list := b.Marks()
		list = list[:cap(list)]
		for i := range list {
			list[i] = api.Mark{Name: '#', At: -1}
		}
	}
	overwrite()
	onBuffer(b, do(-1, false, edit(0, 0, "x")))
	overwrite()
	hold(t, "R3: Marks was written over", b, "xabcd", 5, "a2 c4", 1, 0, 0)
	kept := b.Marks()
	b.Undo()
	overwrite()
	hold(t, "R3: Marks was written over", b, "abcd", 4, "a1 c3", 0, 1, 0)
	b.Redo()
	overwrite()
	hold(t, "R3: Marks was written over", b, "xabcd", 5, "a2 c4", 1, 0, 0)
	b.SetMark('a', 0)
	b.Reset("")
	if !slices.Equal(kept, []api.Mark{{Name: 'a', At: 2}, {Name: 'c', At: 4}}) {
		t.Errorf("R3: what Marks answered has changed: %v", kept)
	}
}

// TestMarksAtGroups: a mark that is laid on changes no group's marks, though these are handed to the log as lists.
func TestMarksAtGroups(t *testing.T) {
	b := made(t, api.Config{Text: 20, Undo: 5}, reset("abcd"), setMark('a', 1), do(-1, false, edit(4, 0, "e")), do(-1, false, edit(5, 0, "f")))
	for range 3 {
		b.Undo()
		b.SetMark('a', 3)
		b.SetMark('b', 2)
		b.Undo()
		b.SetMark('a', 4)
		b.Redo()
		hold(t, "P15.6: Redo", b, "abcde", 4, "a1", 1, 1, 0)
		b.SetMark('a', 0)
		b.Redo()
		hold(t, "P15.6: Redo", b, "abcdef", 4, "a1", 2, 0, 0)
	}
}

// TestTextsOfAnswers: the texts of answers, and of what was handed in, share no memory.
func TestTextsOfAnswers(t *testing.T) {
	for kind := range api.Kind(4) {
		text := strings.Repeat("text ", 9)
		b := buffer.New(api.Config{Text: 99, Undo: 5, Store: kind})
		b.Do([]api.Edit{edit(0, 0, text)}, -1, false)
		b.Undo()
		b.Redo()
		texts := []string{text, b.Text(), b.Text(), b.Store().Text()}
		for range 2 {
			s, _ := b.Slice(0, len(text))
			texts = append(texts, s)
		}
		for i, one := range texts {
			for j, other := range texts {
				if one != text || i != j && unsafe.StringData(one) == unsafe.StringData(other) {
					t.Errorf("R3: the texts %d and %d: %q, %q", i, j, one, other)
				}
			}
		}
	}
}

// TestTwoBuffers: what is done to one is never seen in the other, made of one config as they are.
func TestTwoBuffers(t *testing.T) {
	for seed := range 20 {
		next := numbers(uint64(seed) + 5)
		c := api.Config{Text: 90, Undo: 4, Low: 5, High: 20}
		x, y := newPair(t, c), newPair(t, c)
		for range 100 {
			x.do(t, someCall(next, x.p.now.text))
			y.look(t, "New")
			y.do(t, someCall(next, y.p.now.text))
			x.look(t, "New")
		}
	}
	if a, b := buffer.New(api.Config{}), buffer.New(api.Config{}); a.Store() == b.Store() {
		t.Error("P15.2: two buffers have one store")
	}
}

// heap answers how many bytes are in use.
func heap() int {
	runtime.GC()
	var m runtime.MemStats
	runtime.ReadMemStats(&m)
	return int(m.HeapAlloc)
}

// TestNothingElseIsKept: texts of groups that are gone can be forgotten, and none is kept of what was refused or passed over.
func TestNothingElseIsKept(t *testing.T) {
	const size = 1 << 20
	// A rope's leaves have more than their texts, so this is a gap buffer.
	for bound := range 4 {
		b := buffer.New(api.Config{Text: 2 * size, Undo: bound, Store: api.KindGap})
		before := heap()
		for n := range bound + 3 {
			text := strings.Repeat(string(rune('a'+n)), size)
			b.Do([]api.Edit{edit(0, b.Len(), text)}, -1, n%2 == 0)
			b.Do([]api.Edit{edit(0, size, text)}, -1, false)
			b.Do([]api.Edit{edit(0, 0, text), edit(0, 0, text)}, -1, false)
		}
		// A group has what was cut and what was put; the buffer's array has at most twice its text.
		if used := heap() - before; used > (2*bound+2)*size+size/4 {
			t.Errorf("LANGUAGE.md's rule 8: the bound %d, texts of %d bytes: %d bytes are kept", bound, size, used)
		}
		for b.Undo() == api.OK {
		}
		b.Do([]api.Edit{edit(0, 1, "x")}, -1, false)
		if used := heap() - before; used > 2*size+size/4 {
			t.Errorf("LANGUAGE.md's rule 8: the bound %d behind a new group: %d bytes are kept", bound, used)
		}
		b.Do([]api.Edit{edit(0, 1, strings.Repeat("y", size/2))}, -1, false)
		b.Reset("")
		if used := heap() - before; used > size/4 {
			t.Errorf("LANGUAGE.md's rule 8: the bound %d behind Reset: %d bytes are kept", bound, used)
		}
		runtime.KeepAlive(b)
	}
}
