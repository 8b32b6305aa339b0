package hist_test

import (
	"math"
	"runtime"
	"slices"
	"strings"
	"testing"
	"unsafe"

	"bodkin/api"
	"bodkin/hist"
)

// This file has the zero History and nil, and what is kept and shared of texts and lists.

// TestZeroAndNil has every call on the zero History and on nil, in every order of three.
func TestZeroAndNil(t *testing.T) {
	many := len(everyCall(0))
	for run := range many * many * many {
		for name, x := range map[string]*pair{
			"zero": {h: &hist.History{}, p: newPlain(0)},
			"nil":  {h: nil, p: &plain{keepsNone: true}},
		} {
			x.look(t, name)
			for n, rest := 0, run; n < 3; n, rest = n+1, rest/many {
				x.do(t, everyCall(n)[rest%many])
			}
			x.walk(t)
		}
	}
}

func TestNilWrittenDown(t *testing.T) {
	var h *hist.History
	for range 2 {
		if h.Bound() != 0 || h.Len() != 0 || len(h.Entries()) != 0 || h.Place() != 0 || h.Drafts() != 0 {
			t.Error("P14.7: nil:", h.Bound(), h.Len(), h.Entries(), h.Place(), h.Drafts())
		}
		if h.Add("a") || h.Add("") {
			t.Error("P14.7: Add of nil: true")
		}
		says(t, "P14.7: Back of nil", "", api.ErrNoHistory)(h.Back("x"))
		says(t, "P14.7: Forward of nil", "", api.ErrNoHistory)(h.Forward("x"))
		says(t, "P14.7: Go(0) of nil", "", api.OK)(h.Go(0, "x"))
		for _, n := range []int{math.MinInt, -1, 1, 2, math.MaxInt} {
			says(t, "P14.7: Go of nil", "", api.ErrRange)(h.Go(n, "x"))
			says(t, "P14.7: Entry of nil", "", api.ErrRange)(h.Entry(n))
			found(t, h, "x", n, 0, 0, api.ErrNotFound)
			found(t, h, "", n, 0, 0, api.ErrNotFound)
		}
		says(t, "P14.7: Entry of nil", "", api.ErrRange)(h.Entry(0))
		h.Home()
	}
}

// overwrite writes over a list, its spare room too.
func overwrite(list []string) {
	list = list[:cap(list)]
	for i := range list {
		list[i] = "#"
	}
}

// TestEntriesMayBeWrittenOver: the history stays as it is, and what was answered is not changed by later calls.
func TestEntriesMayBeWrittenOver(t *testing.T) {
	for place := range 4 {
		h := walked(t, 4, place)
		for range 3 {
			overwrite(h.Entries())
			overwrite(append(h.Entries(), "more"))
			hold(t, "P14.1: Entries was written over", h, place, 2, "a b c")
		}
		all := h.Entries()
		h.Go(1, "x")
		h.Add("d")
		h.Add("e")
		h.Back("y")
		h.Home()
		if !slices.Equal(all, []string{"a", "b", "c"}) {
			t.Errorf("P14.1: what Entries answered has changed: %q", all)
		}
	}
}

// TestTextsOfAnswers: the texts of answers, and of what was handed in, share no memory.
func TestTextsOfAnswers(t *testing.T) {
	line := strings.Repeat("line ", 9)
	h := hist.New(3)
	h.Add(line)
	texts := []string{line}
	take := func(text string, _ api.Errno) { texts = append(texts, text) }
	for range 2 {
		texts = append(texts, h.Entries()...)
		take(h.Entry(0))
		take(h.Go(0, line))
		take(h.Go(0, line))
		take(h.Go(1, line))
		take(h.Go(1, line))
		take(h.Back(line))
		take(h.Forward(line))
		h.Home()
		take(h.Back(line))
	}
	for i, one := range texts {
		for j, other := range texts {
			if one != line || i != j && unsafe.StringData(one) == unsafe.StringData(other) {
				t.Errorf("R3: the texts %d and %d: %q, %q", i, j, one, other)
			}
		}
	}
}

// TestArgumentsAreNotKept writes over the memory of the texts that a history was handed.
func TestArgumentsAreNotKept(t *testing.T) {
	room := []byte("handed in, and more")
	text := unsafe.String(unsafe.SliceData(room), 6)
	h := hist.New(2)
	h.Add("old")
	h.Add("older")
	h.Add(text)
	h.Back(text)
	h.Go(0, text)
	answered, _ := h.Go(0, text)
	if string(room) != "handed in, and more" {
		t.Errorf("R3: what was handed in has changed: %q", room)
	}
	for i := range room {
		room[i] = '#'
	}
	hold(t, "R3: lines that were handed in are kept", h, 0, 3, "older handed")
	if answered != "handed" {
		t.Errorf("R3: an answer shares memory with what was handed in: %q", answered)
	}
	says(t, "R3: drafts that were handed in are kept", "handed", api.OK)(h.Go(1, "x"))
	says(t, "R3: drafts that were handed in are kept", "handed", api.OK)(h.Go(2, "x"))
}

// heap answers how many bytes are in use.
func heap() int {
	runtime.GC()
	var m runtime.MemStats
	runtime.ReadMemStats(&m)
	return int(m.HeapAlloc)
}

// TestNothingElseIsKept: lines and drafts that are dropped can be forgotten.
func TestNothingElseIsKept(t *testing.T) {
	const size = 1 << 22
	for bound := range 4 {
		h := hist.New(bound)
		before := heap()
		for n := range bound + 3 {
			h.Add(strings.Repeat(string(rune('a'+n)), size))
			for range 3 {
				h.Go(0, strings.Repeat("x", size))
				h.Go(h.Len(), strings.Repeat("y", size))
			}
		}
		// At the bound 0 the one place, else the oldest and the bottom have a draft.
		drafts := min(bound+1, 2)
		if used := heap() - before; used > (bound+drafts)*size+size/4 {
			t.Errorf("LANGUAGE.md's rule 8: the bound %d, texts of %d bytes: %d bytes are kept", bound, size, used)
		}
		h.Home()
		if used := heap() - before; used > bound*size+size/4 {
			t.Errorf("LANGUAGE.md's rule 8: the bound %d behind Home: %d bytes are kept", bound, used)
		}
		runtime.KeepAlive(h)
	}
}
