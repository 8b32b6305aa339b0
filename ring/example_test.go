package ring_test

import (
	"slices"
	"testing"

	"bodkin/api"
	"bodkin/ring"
)

// The chapter's examples, as they stand there.

// holds holds an answer against true.
func holds(t *testing.T, of string, ok bool) {
	t.Helper()
	if !ok {
		t.Errorf("examples: %s", of)
	}
}

// entries holds all entries against the example.
func entries(t *testing.T, of string, r *ring.Ring, want ...string) {
	t.Helper()
	if got := r.All(); !slices.Equal(got, want) || r.Len() != len(want) {
		t.Errorf("examples: %s: %q, want %q", of, got, want)
	}
}

func TestExampleOfARing(t *testing.T) {
	r := ring.New(2)
	holds(t, "three kills", r.Kill("a", false) && r.Kill("b", false) && r.Kill("c", true))
	entries(t, "three kills", r, "cab")
	r.Stop()
	holds(t, "a kill behind Stop", r.Kill("d", false))
	entries(t, "a kill behind Stop", r, "d", "cab")
	holds(t, "a copy", r.Copy("e"))
	entries(t, "a copy", r, "e", "d")
	holds(t, "a kill behind a copy", r.Kill("f", false))
	entries(t, "a kill behind a copy", r, "f", "e")
	text, e := r.Yank()
	holds(t, "Yank", text == "f" && e == api.OK)
	old, text, e := r.Pop()
	holds(t, "Pop", old == "f" && text == "e" && e == api.OK)
	old, text, e = r.Pop()
	holds(t, "Pop again", old == "e" && text == "f" && e == api.OK)
	holds(t, "a kill of nothing", !r.Kill("", true) && r.Yanking())
	r.Stop()
	old, text, e = r.Pop()
	holds(t, "Pop behind Stop", old == "" && text == "" && e == api.ErrNoYank)
}

func TestExampleOfTheBound0(t *testing.T) {
	r := ring.New(0)
	holds(t, "a kill with the bound 0", !r.Kill("a", false) && r.Killing())
	text, e := r.Yank()
	holds(t, "Yank with the bound 0", text == "" && e == api.ErrNoKill)
}
