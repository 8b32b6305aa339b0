package hist_test

import (
	"slices"
	"testing"

	"bodkin/api"
	"bodkin/hist"
)

// The chapter's examples, as they stand there.

// holds holds an answer against true.
func holds(t *testing.T, of string, ok bool) {
	t.Helper()
	if !ok {
		t.Errorf("examples: %s", of)
	}
}

// answers holds a text and an error against the example.
func answers(t *testing.T, of, want string, wantE api.Errno, got string, e api.Errno) {
	t.Helper()
	if got != want || e != wantE {
		t.Errorf("examples: %s: %q, %v, want %q, %v", of, got, e, want, wantE)
	}
}

func TestExampleOfAWalk(t *testing.T) {
	h := hist.New(2)
	holds(t, "five lines", !h.Add("") && h.Add("a") && !h.Add("a") && h.Add("b") && h.Add("c"))
	holds(t, "the entries", slices.Equal(h.Entries(), []string{"b", "c"}) && h.Place() == 2)
	back := func(now, want string, wantE api.Errno) {
		t.Helper()
		got, e := h.Back(now)
		answers(t, "Back of "+now, want, wantE, got, e)
	}
	forward := func(now, want string, wantE api.Errno) {
		t.Helper()
		got, e := h.Forward(now)
		answers(t, "Forward of "+now, want, wantE, got, e)
	}
	back("x", "c", api.OK)
	back("C", "b", api.OK)
	back("b", "", api.ErrNoHistory)
	holds(t, "the place behind three Backs", h.Place() == 0)
	forward("bb", "C", api.OK)
	forward("C", "x", api.OK)
	forward("x", "", api.ErrNoHistory)
	back("y", "C", api.OK)
	back("C2", "bb", api.OK)
	h.Home()
	back("", "c", api.OK)
	i, at, e := h.Find("b", 9)
	holds(t, "Find of b", i == 0 && at == 0 && e == api.OK)
	i, at, e = h.Find("c", 1)
	holds(t, "Find of c", i == 0 && at == 0 && e == api.ErrNotFound)
	got, e := h.Go(5, "")
	answers(t, "Go to 5", "", api.ErrRange, got, e)
}

func TestExampleOfFind(t *testing.T) {
	h := hist.New(2)
	holds(t, "two lines", h.Add("abab") && h.Add("b"))
	i, at, e := h.Find("ab", 2)
	holds(t, "Find of ab", i == 0 && at == 2 && e == api.OK)
	i, at, e = h.Find("b", 2)
	holds(t, "Find of b", i == 1 && at == 0 && e == api.OK)
}
