package ring_test

import (
	"math"
	"runtime"
	"slices"
	"strconv"
	"strings"
	"testing"
	"unsafe"

	"bodkin/api"
	"bodkin/ring"
)

// numbers answers numbers that look mixed, the same ones at each run.
func numbers(seed uint64) func(below int) int {
	return func(below int) int {
		seed = seed*6364136223846793005 + 1442695040888963407
		return int(seed>>33) % below
	}
}

// call is a call that may change a ring.
type call struct {
	name, text string
	ahead      bool
}

// String tells a call so that any bytes can be read, and long ones don't fill the page.
func (c call) String() string {
	told := c.name
	if c.name == "Kill" || c.name == "Copy" {
		told += " " + strconv.Quote(c.text[:min(len(c.text), 20)])
	}
	if c.ahead {
		told += " ahead"
	}
	return told
}

// answer is what a call answers; what it doesn't tell is zero.
type answer struct {
	old, text string
	ok        bool
	e         api.Errno
}

// promise tells which promise a call is about.
func promise(name string) string {
	switch name {
	case "Kill":
		return "P13.2"
	case "Copy":
		return "P13.3"
	case "Yank":
		return "P13.4"
	case "Pop":
		return "P13.5"
	case "Stop":
		return "P13.6"
	case "Clone":
		return "P13.7"
	}
	return "P13.1"
}

// pair is a ring, and the plain one that is kept beside it.
type pair struct {
	r *ring.Ring
	p *plain
	// done is what was called, to be told where something is wrong.
	done []call
}

func newPair(t *testing.T, bound int) *pair {
	t.Helper()
	x := &pair{r: ring.New(bound), p: newPlain(bound)}
	if x.r == nil {
		t.Fatalf("P13.1: New(%d): nil", bound)
	}
	x.look(t, "New")
	return x
}

// onRing carries the call out by the package.
func (x *pair) onRing(c call) (a answer) {
	switch c.name {
	case "Kill":
		a.ok = x.r.Kill(c.text, c.ahead)
	case "Copy":
		a.ok = x.r.Copy(c.text)
	case "Yank":
		a.text, a.e = x.r.Yank()
	case "Pop":
		a.old, a.text, a.e = x.r.Pop()
	case "Stop":
		x.r.Stop()
	case "Clone":
		x.r = x.r.Clone()
	}
	return a
}

// onPlain carries the call out by the chapter's words.
func (x *pair) onPlain(c call) (a answer) {
	switch c.name {
	case "Kill":
		a.ok = x.p.kill(c.text, c.ahead)
	case "Copy":
		a.ok = x.p.copy(c.text)
	case "Yank":
		a.text, a.e = x.p.yank()
	case "Pop":
		a.old, a.text, a.e = x.p.pop()
	case "Stop":
		x.p.stop()
	case "Clone":
		x.p = x.p.clone()
	}
	return a
}

// look holds all that the ring tells without being changed against the plain one.
func (x *pair) look(t *testing.T, name string) {
	t.Helper()
	r, p := x.r, x.p
	if r.Killing() != (p.state == "killing") || r.Yanking() != (p.state == "yanking") {
		t.Fatalf("%s: behind %v: killing %v, yanking %v, want %s", promise(name), x.done, r.Killing(), r.Yanking(), p.state)
	}
	if r.Bound() != p.bound || r.Len() != len(p.entries) || !slices.Equal(r.All(), p.all()) {
		t.Fatalf("%s: behind %v: bound %d, %d entries, %.99q, want %d, %d, %.99q", promise(name), x.done, r.Bound(), r.Len(), r.All(), p.bound, len(p.entries), p.all())
	}
}

// do carries calls out on both, and holds what they answer and become against each other.
func (x *pair) do(t *testing.T, calls ...call) {
	t.Helper()
	for _, c := range calls {
		x.done = append(x.done, c)
		if got, want := x.onRing(c), x.onPlain(c); got != want {
			t.Fatalf("%s: behind %v: %.99q, %.99q, %v, %v, want %.99q, %.99q, %v, %v", promise(c.name), x.done, got.old, got.text, got.ok, got.e, want.old, want.text, want.ok, want.e)
		}
		x.look(t, c.name)
	}
}

// round pops once round and further: so the place is seen, or that there is none.
func (x *pair) round(t *testing.T) {
	t.Helper()
	for range len(x.p.entries) + 2 {
		x.do(t, call{name: "Pop"})
	}
}

// split answers a pair of the same, which goes its own way.
func (x *pair) split() *pair {
	return &pair{r: x.r.Clone(), p: x.p.clone(), done: slices.Clone(x.done)}
}

func kill(text string) call      { return call{name: "Kill", text: text} }
func killAhead(text string) call { return call{name: "Kill", text: text, ahead: true} }
func copied(text string) call    { return call{name: "Copy", text: text} }

var (
	yank  = call{name: "Yank"}
	pop   = call{name: "Pop"}
	stop  = call{name: "Stop"}
	clone = call{name: "Clone"}
)

// everyCall lists the calls in all their ways, with texts of their own.
func everyCall(n int) []call {
	text := strconv.Itoa(n)
	return []call{kill(text), killAhead(text), kill(""), killAhead(""), copied(text), copied(""), yank, pop, stop, clone}
}

// beginnings lists what may have been done ahead of a run: each state without entries, with one and with several, and each place of a yank.
func beginnings() map[string][]call {
	one, three := []call{copied("a")}, []call{copied("a"), copied("b"), copied("c")}
	with := func(ahead []call, more ...call) []call { return append(slices.Clone(ahead), more...) }
	return map[string][]call{
		"nothing":                     nil,
		"one, idle":                   one,
		"one, killing":                {kill("a")},
		"one, yanking":                with(one, yank),
		"three, idle":                 three,
		"three, killing":              {copied("a"), copied("b"), kill("c")},
		"three, yanking the newest":   with(three, yank),
		"three, yanking the second":   with(three, yank, pop),
		"three, yanking the oldest":   with(three, yank, pop, pop),
		"three, yanking round":        with(three, yank, pop, pop, pop),
		"three, a yank stopped":       with(three, yank, pop, stop),
		"three, a yank broken by one": with(three, yank, pop, kill("d")),
		"five, a clone that yanks":    with(three, copied("d"), copied("e"), yank, pop, clone),
		"killed and killed":           {kill("a"), kill("b"), killAhead("c")},
	}
}

// TestEveryRun has every run of three calls behind every beginning, at every low bound.
func TestEveryRun(t *testing.T) {
	many := len(everyCall(0))
	for _, begun := range beginnings() {
		for bound := range 7 {
			for run := range many * many * many {
				x := newPair(t, bound)
				x.do(t, begun...)
				for n := range 3 {
					x.do(t, everyCall(n)[run%many])
					run /= many
				}
				x.round(t)
				x.do(t, yank)
				x.round(t)
			}
		}
	}
}

// TestEveryRunFromNew has every run of five calls of a ring that is new, at the lowest bounds.
func TestEveryRunFromNew(t *testing.T) {
	many := len(everyCall(0))
	for bound := range 3 {
		for run := range many * many * many * many * many {
			x := newPair(t, bound)
			for n := range 5 {
				x.do(t, everyCall(n)[run%many])
				run /= many
			}
			x.round(t)
		}
	}
}

// TestManyCalls has long runs of mixed calls, and a clone now and then, whose run goes another way.
func TestManyCalls(t *testing.T) {
	texts := []string{"", "a", "bc", "\xff\x00", "\u4e00\r\n", "a\xcc\x81", strings.Repeat("long ", 40)}
	names := []string{"Kill", "Kill", "Kill", "Kill", "Copy", "Copy", "Yank", "Yank", "Pop", "Pop", "Pop", "Pop", "Stop", "Clone"}
	for seed, bound := range []int{math.MinInt, -1, 0, 1, 2, 3, 7, 50, 1000, 2000, math.MaxInt} {
		next := numbers(uint64(seed))
		pairs := []*pair{newPair(t, bound)}
		for range 1500 {
			x := pairs[next(len(pairs))]
			x.do(t, call{name: names[next(len(names))], text: texts[next(len(texts))], ahead: next(2) == 0})
			x.done = x.done[max(len(x.done)-20, 0):]
			if next(100) == 0 && len(pairs) < 5 {
				pairs = append(pairs, x.split())
			}
		}
		for _, x := range pairs {
			x.look(t, "Clone")
			x.round(t)
		}
	}
}

func TestBounds(t *testing.T) {
	for _, c := range []struct{ of, want int }{
		{math.MinInt, 0}, {-1 << 32, 0}, {-2, 0}, {-1, 0}, {0, 0}, {1, 1}, {2, 2}, {17, 17}, {999, 999},
		{1000, 1000}, {1001, 1000}, {5000, 1000}, {1 << 32, 1000}, {math.MaxInt, 1000},
	} {
		r := ring.New(c.of)
		if r == nil || r.Bound() != c.want || r.Len() != 0 || len(r.All()) != 0 || r.Killing() || r.Yanking() {
			t.Fatalf("P13.1: New(%d): bound %d, %d entries, killing %v, yanking %v", c.of, r.Bound(), r.Len(), r.Killing(), r.Yanking())
		}
		for n := range c.want + 3 {
			if ok := r.Copy(strconv.Itoa(n)); ok != (c.want > 0) || r.Len() != min(n+1, c.want) {
				t.Fatalf("P13.3: copy %d, bound %d: %v, %d entries", n, c.want, ok, r.Len())
			}
		}
		// The oldest three are gone, and no others.
		all := r.All()
		for n := range c.want {
			if want := strconv.Itoa(c.want + 2 - n); all[n] != want {
				t.Fatalf("P13.2: bound %d, entry %d: %q, want %q", c.want, n, all[n], want)
			}
		}
		for n := range c.want + 3 {
			r.Stop()
			if ok := r.Kill("k"+strconv.Itoa(n), n%2 == 0); ok != (c.want > 0) || r.Len() != c.want || !r.Killing() {
				t.Fatalf("P13.2: kill %d, bound %d: %v, %d entries, killing %v", n, c.want, ok, r.Len(), r.Killing())
			}
		}
		all = r.All()
		for n := range c.want {
			if want := "k" + strconv.Itoa(c.want+2-n); all[n] != want {
				t.Fatalf("P13.2: bound %d, entry %d: %q, want %q", c.want, n, all[n], want)
			}
		}
		if r.Bound() != c.want || len(all) != c.want {
			t.Errorf("P13.1: bound %d, %d entries, want %d", r.Bound(), len(all), c.want)
		}
	}
}

// seen is what a ring tells without being changed; state is i, k or y.
type seen struct{ state, entries string }

func see(r *ring.Ring) seen {
	state := "i"
	switch {
	case r.Killing() && r.Yanking():
		state = "both"
	case r.Killing():
		state = "k"
	case r.Yanking():
		state = "y"
	}
	return seen{state, strings.Join(r.All(), " ")}
}

func hold(t *testing.T, promise string, r *ring.Ring, state, entries string) {
	t.Helper()
	if got, want := see(r), (seen{state, entries}); got != want {
		t.Errorf("%s: %+v, want %+v", promise, got, want)
	}
}

// made answers a ring with the entries c, b and a, in the state i, k or y (at b).
func made(t *testing.T, bound int, state string) *ring.Ring {
	t.Helper()
	r := ring.New(bound)
	r.Copy("a")
	r.Copy("b")
	r.Copy("c")
	switch state {
	case "k":
		r = ring.New(bound)
		r.Copy("a")
		r.Copy("b")
		r.Kill("c", false)
	case "y":
		r.Yank()
		r.Pop()
	}
	hold(t, "made", r, state, "c b a")
	return r
}

// emptyKilling answers a ring without entries that is killing: only the bound 0 leaves one so.
func emptyKilling(t *testing.T) *ring.Ring {
	t.Helper()
	r := ring.New(0)
	if r.Kill("x", false) {
		t.Error("P13.2: Kill with the bound 0: true")
	}
	hold(t, "P13.2", r, "k", "")
	return r
}

func TestEmptyTexts(t *testing.T) {
	for _, of := range []func(r *ring.Ring) bool{
		func(r *ring.Ring) bool { return r.Kill("", false) },
		func(r *ring.Ring) bool { return r.Kill("", true) },
		func(r *ring.Ring) bool { return r.Copy("") },
	} {
		for _, state := range []string{"i", "k", "y"} {
			r := made(t, 3, state)
			if of(r) {
				t.Errorf("P13.2, P13.3: an empty text in the state %s: true", state)
			}
			hold(t, "P13.2, P13.3", r, state, "c b a")
		}
		yanking := made(t, 3, "y")
		of(yanking)
		if old, text, e := yanking.Pop(); old != "b" || text != "a" || e != api.OK {
			t.Errorf("P13.2, P13.3: an empty text has moved the place: %q, %q, %v", old, text, e)
		}
		killing := made(t, 3, "k")
		of(killing)
		killing.Kill("d", false)
		hold(t, "P13.2: an empty text between two kills", killing, "k", "cd b a")
		for _, r := range []*ring.Ring{ring.New(3), ring.New(0), {}} {
			if of(r) {
				t.Error("P13.2, P13.3: an empty text without entries: true")
			}
			hold(t, "P13.2, P13.3", r, "i", "")
		}
		if r := emptyKilling(t); of(r) || !r.Killing() {
			t.Error("P13.2, P13.3: an empty text without entries, killing")
		}
	}
}

func TestKillByState(t *testing.T) {
	for _, c := range []struct {
		bound         int
		state         string
		ahead         bool
		want, further string
	}{
		{3, "i", false, "d c b", "de c b"},
		{3, "i", true, "d c b", "ed c b"},
		{4, "i", true, "d c b a", "ed c b a"},
		{3, "y", false, "d c b", "de c b"},
		{3, "y", true, "d c b", "ed c b"},
		{9, "y", false, "d c b a", "de c b a"},
		{3, "k", false, "cd b a", "cde b a"},
		{3, "k", true, "dc b a", "edc b a"},
		{9, "k", true, "dc b a", "edc b a"},
	} {
		r := made(t, c.bound, c.state)
		if !r.Kill("d", c.ahead) {
			t.Errorf("P13.2: Kill in the state %s: false", c.state)
		}
		hold(t, "P13.2", r, "k", c.want)
		if !r.Kill("e", c.ahead) {
			t.Error("P13.2: a second Kill: false")
		}
		hold(t, "P13.2", r, "k", c.further)
	}
	one := ring.New(1)
	one.Kill("a", true)
	one.Kill("b", true)
	one.Kill("c", false)
	hold(t, "P13.2: the bound 1", one, "k", "bac")
	one.Stop()
	one.Kill("d", true)
	hold(t, "P13.2: the bound 1", one, "k", "d")
}

// TestTheBound0: nothing is kept, but the state is.
func TestTheBound0(t *testing.T) {
	for _, ahead := range []bool{false, true} {
		for _, r := range []*ring.Ring{ring.New(0), ring.New(-7), {}, emptyKilling(t)} {
			for range 3 {
				if r.Kill("a", ahead) {
					t.Error("P13.2: Kill with the bound 0: true")
				}
				hold(t, "P13.2: the bound 0", r, "k", "")
			}
			if r.Copy("b") {
				t.Error("P13.3: Copy with the bound 0: true")
			}
			hold(t, "P13.3: the bound 0", r, "i", "")
			r.Kill("a", ahead)
			r.Stop()
			hold(t, "P13.6: the bound 0", r, "i", "")
		}
	}
}

func TestCopyByState(t *testing.T) {
	for _, state := range []string{"i", "k", "y"} {
		for bound, want := range map[int][2]string{3: {"d c b", "e d c"}, 4: {"d c b a", "e d c b"}, 5: {"d c b a", "e d c b a"}} {
			r := made(t, bound, state)
			if !r.Copy("d") {
				t.Errorf("P13.3: Copy in the state %s: false", state)
			}
			hold(t, "P13.3", r, "i", want[0])
			if _, _, e := r.Pop(); e != api.ErrNoYank {
				t.Error("P13.3: Pop behind Copy:", e)
			}
			if !r.Kill("e", true) {
				t.Error("P13.2: Kill behind Copy: false")
			}
			hold(t, "P13.3: a kill behind a copy", r, "k", want[1])
		}
	}
}

func TestYankWithNoEntry(t *testing.T) {
	for name, r := range map[string]*ring.Ring{"idle": ring.New(3), "idle, the bound 0": ring.New(0), "zero": {}, "killing": emptyKilling(t)} {
		for range 2 {
			if text, e := r.Yank(); text != "" || e != api.ErrNoKill {
				t.Errorf("P13.4: %s: %q, %v", name, text, e)
			}
			hold(t, "P13.4: "+name, r, "i", "")
		}
		if _, _, e := r.Pop(); e != api.ErrNoYank {
			t.Errorf("P13.5: %s: behind a Yank that was refused: %v", name, e)
		}
	}
}

func TestYankByState(t *testing.T) {
	for _, state := range []string{"i", "k", "y"} {
		r := made(t, 3, state)
		for range 2 {
			if text, e := r.Yank(); text != "c" || e != api.OK {
				t.Errorf("P13.4: in the state %s: %q, %v", state, text, e)
			}
			hold(t, "P13.4", r, "y", "c b a")
		}
		if old, text, e := r.Pop(); old != "c" || text != "b" || e != api.OK {
			t.Errorf("P13.4: the place behind Yank in the state %s: %q, %q, %v", state, old, text, e)
		}
		if text, e := r.Yank(); text != "c" || e != api.OK {
			t.Errorf("P13.4: behind Pop: %q, %v", text, e)
		}
	}
}

func TestPopWithoutYank(t *testing.T) {
	for _, state := range []string{"i", "k"} {
		r := made(t, 4, state)
		for range 2 {
			if old, text, e := r.Pop(); old != "" || text != "" || e != api.ErrNoYank {
				t.Errorf("P13.5: in the state %s: %q, %q, %v", state, old, text, e)
			}
			hold(t, "P13.5", r, "i", "c b a")
		}
		r.Kill("d", false)
		hold(t, "P13.5: a kill behind a Pop that was refused", r, "k", "d c b a")
	}
	for _, r := range []*ring.Ring{ring.New(3), emptyKilling(t), {}} {
		if old, text, e := r.Pop(); old != "" || text != "" || e != api.ErrNoYank {
			t.Errorf("P13.5: without entries: %q, %q, %v", old, text, e)
		}
		hold(t, "P13.5", r, "i", "")
	}
}

// TestPopRound has rings with one entry up to all that there may be, and goes round them twice.
func TestPopRound(t *testing.T) {
	for _, many := range []int{1, 2, 3, 5, 999, 1000} {
		r := ring.New(1000)
		for n := range many {
			r.Copy(strconv.Itoa(n))
		}
		before := r.All()
		r.Yank()
		for n := range 2*many + 1 {
			old, text, e := r.Pop()
			if old != before[n%many] || text != before[(n+1)%many] || e != api.OK || !r.Yanking() {
				t.Fatalf("P13.5: Pop %d of %d entries: %q, %q, %v, yanking %v", n, many, old, text, e, r.Yanking())
			}
		}
		if !slices.Equal(r.All(), before) || r.Len() != many {
			t.Errorf("P13.5: the entries have changed: %.99q", r.All())
		}
	}
}

func TestStop(t *testing.T) {
	for _, state := range []string{"i", "k", "y"} {
		r := made(t, 4, state)
		for range 2 {
			r.Stop()
			hold(t, "P13.6: from the state "+state, r, "i", "c b a")
		}
		if old, text, e := r.Pop(); old != "" || text != "" || e != api.ErrNoYank {
			t.Errorf("P13.6: Pop behind Stop: %q, %q, %v", old, text, e)
		}
		r.Stop()
		r.Kill("d", true)
		hold(t, "P13.6: a kill behind Stop", r, "k", "d c b a")
	}
	for _, r := range []*ring.Ring{ring.New(3), emptyKilling(t), {}} {
		r.Stop()
		hold(t, "P13.6", r, "i", "")
	}
}

// TestClone does each call to a ring or to its clone, in each state, and looks at the other one.
func TestClone(t *testing.T) {
	for _, begun := range beginnings() {
		for _, bound := range []int{0, 1, 2, 3, 5, 1000} {
			for n := range everyCall(0) {
				for _, second := range everyCall(2) {
					x := newPair(t, bound)
					x.do(t, begun...)
					y := x.split()
					y.look(t, "Clone")
					x.do(t, everyCall(1)[n], second)
					y.look(t, "Clone")
					z := y.split()
					y.do(t, everyCall(3)[n], second)
					z.look(t, "Clone")
					x.look(t, "Clone")
					z.round(t)
					y.look(t, "Clone")
					x.round(t)
					y.round(t)
				}
			}
		}
	}
}

func TestCloneWrittenDown(t *testing.T) {
	var none *ring.Ring
	if none.Clone() != nil {
		t.Error("P13.7: nil has a clone")
	}
	if c := (&ring.Ring{}).Clone(); c == nil || c.Bound() != 0 || see(c) != (seen{"i", ""}) {
		t.Error("P13.7: the clone of the zero Ring")
	}
	hold(t, "P13.7", emptyKilling(t).Clone(), "k", "")
	for _, state := range []string{"i", "k", "y"} {
		r := made(t, 3, state)
		c := r.Clone()
		if c == nil || c == r || c.Bound() != 3 || c.Len() != 3 {
			t.Fatal("P13.7: Clone:", c)
		}
		hold(t, "P13.7", c, state, "c b a")
		r.Kill("d", true)
		hold(t, "P13.7: a clone behind a kill of its ring", c, state, "c b a")
		after := see(r)
		c.Copy("e")
		c.Stop()
		if see(r) != after {
			t.Errorf("P13.7: a ring behind a copy of its clone: %+v, want %+v", see(r), after)
		}
	}
	r := made(t, 3, "y")
	c := r.Clone()
	r.Pop()
	r.Pop()
	if old, text, e := c.Pop(); old != "b" || text != "a" || e != api.OK {
		t.Errorf("P13.7: the place of a clone: %q, %q, %v", old, text, e)
	}
	if old, text, e := r.Pop(); old != "c" || text != "b" || e != api.OK {
		t.Errorf("P13.7: the place of its ring: %q, %q, %v", old, text, e)
	}
}

// TestZeroAndNil has every call on the zero Ring and on nil, in every order of four.
func TestZeroAndNil(t *testing.T) {
	many := len(everyCall(0))
	for run := range many * many * many * many {
		for _, x := range []*pair{
			{r: &ring.Ring{}, p: newPlain(0)},
			{r: nil, p: &plain{keepsNone: true}},
		} {
			x.look(t, "Clone")
			for n, rest := 0, run; n < 4; n, rest = n+1, rest/many {
				x.do(t, everyCall(n)[rest%many])
			}
		}
	}
}

func TestNilWrittenDown(t *testing.T) {
	var r *ring.Ring
	if r.Bound() != 0 || r.Len() != 0 || len(r.All()) != 0 {
		t.Error("P13.7: nil has a bound or entries:", r.Bound(), r.Len(), r.All())
	}
	if r.Kill("a", false) || r.Kill("a", true) || r.Kill("", false) || r.Killing() {
		t.Error("P13.7: Kill of nil")
	}
	if r.Copy("a") || r.Copy("") {
		t.Error("P13.7: Copy of nil")
	}
	if text, e := r.Yank(); text != "" || e != api.ErrNoKill || r.Yanking() {
		t.Error("P13.7: Yank of nil:", text, e)
	}
	if old, text, e := r.Pop(); old != "" || text != "" || e != api.ErrNoYank {
		t.Error("P13.7: Pop of nil:", old, text, e)
	}
	r.Stop()
	if r.Clone() != nil || r.Killing() || r.Yanking() {
		t.Error("P13.7: nil keeps a state")
	}
	var zero ring.Ring
	if zero.Bound() != 0 || zero.Kill("a", true) || !zero.Killing() || zero.Copy("a") || zero.Killing() || zero.Len() != 0 {
		t.Error("P13.7: the zero Ring")
	}
}

// overwrite writes over a list, its spare room too.
func overwrite(list []string) {
	list = list[:cap(list)]
	for i := range list {
		list[i] = "#"
	}
}

// TestAllMayBeWrittenOver: the ring stays as it is, and what was answered is not changed by later calls.
func TestAllMayBeWrittenOver(t *testing.T) {
	for _, state := range []string{"i", "k", "y"} {
		r := made(t, 9, state)
		c := r.Clone()
		for range 3 {
			overwrite(r.All())
			overwrite(append(r.All(), "more"))
			overwrite(c.All())
			hold(t, "P13.1: All was written over", r, state, "c b a")
			hold(t, "P13.7: All was written over", c, state, "c b a")
		}
		all := r.All()
		r.Kill("d", true)
		r.Stop()
		r.Kill("e", false)
		r.Copy("f")
		r.Pop()
		if !slices.Equal(all, []string{"c", "b", "a"}) {
			t.Errorf("P13.1: what All answered has changed: %q", all)
		}
	}
}

// shared answers whether two texts begin in the same memory.
func shared(a, b string) bool {
	return unsafe.StringData(a) == unsafe.StringData(b)
}

// TestTextsOfAnswers: the texts of two answers, of a clone's, and of what was handed in, share no memory.
func TestTextsOfAnswers(t *testing.T) {
	long := strings.Repeat("long ", 9)
	for _, handed := range []call{kill(long), killAhead(long), copied(long)} {
		x := newPair(t, 3)
		x.do(t, handed)
		texts := []string{long}
		for _, r := range []*ring.Ring{x.r, x.r.Clone()} {
			texts = append(texts, r.All()...)
			texts = append(texts, r.All()...)
			yanked, _ := r.Yank()
			again, _ := r.Yank()
			texts = append(texts, yanked, again)
			// With one entry all of them are that one.
			for range 2 {
				old, text, _ := r.Pop()
				texts = append(texts, old, text)
			}
		}
		for i, one := range texts {
			for j, other := range texts {
				if one != long || i != j && shared(one, other) {
					t.Errorf("R3: the texts %d and %d: %q, %q, shared %v", i, j, one, other, shared(one, other))
				}
			}
		}
	}
}

// TestArgumentsAreNotKept writes over the memory of the texts that a ring was handed.
func TestArgumentsAreNotKept(t *testing.T) {
	room := []byte("handed in, and more")
	text := unsafe.String(unsafe.SliceData(room), 6)
	r := ring.New(4)
	r.Kill(text, true)
	r.Stop()
	r.Kill(text, false)
	r.Kill(text, true)
	r.Kill(text, false)
	r.Copy(text)
	c := r.Clone()
	if string(room) != "handed in, and more" {
		t.Errorf("R3: what was handed in has changed: %q", room)
	}
	for i := range room {
		room[i] = '#'
	}
	hold(t, "R3: texts that were handed in are kept", r, "i", "handed handedhandedhanded handed")
	hold(t, "R3: texts that were handed in are kept", c, "i", "handed handedhandedhanded handed")
}

// TestAnyBytes: what stands in a text makes no difference; no byte is changed, and none is left out where two texts are put together.
func TestAnyBytes(t *testing.T) {
	texts := []string{"\x00", "\xff", "\xc3", "\xa9", "\r", "\n", "\xcc\x81", "\u4e00", " ", "\xed\xa0\x80", strings.Repeat("\r\n", 1<<16)}
	for b := range 256 {
		texts = append(texts, string([]byte{byte(b)}))
	}
	x, apart := newPair(t, 5), newPair(t, 1000)
	for n, text := range texts {
		x.do(t, call{name: "Kill", text: text, ahead: n%2 == 0})
		apart.do(t, copied(text))
		x.done, apart.done = nil, nil
	}
	x.do(t, yank, pop)
	apart.do(t, yank, pop, pop)
}

// heap answers how many bytes are in use.
func heap() int {
	runtime.GC()
	var m runtime.MemStats
	runtime.ReadMemStats(&m)
	return int(m.HeapAlloc)
}

// TestNothingElseIsKept: texts that are dropped can be forgotten.
func TestNothingElseIsKept(t *testing.T) {
	const size = 1 << 24
	for bound := range 4 {
		r := ring.New(bound)
		before := heap()
		for range bound + 3 {
			r.Copy(strings.Repeat("x", size))
			r.Stop()
			r.Kill(strings.Repeat("y", size/2), true)
			r.Kill(strings.Repeat("z", size/2), false)
			r.Yank()
			r.Pop()
		}
		if used := heap() - before; used > bound*size+size/4 {
			t.Errorf("LANGUAGE.md's rule 8: the bound %d, texts of %d bytes: %d bytes are kept", bound, size, used)
		}
		runtime.KeepAlive(r)
	}
}
