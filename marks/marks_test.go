package marks_test

import (
	"math"
	"slices"
	"strings"
	"testing"
	"unsafe"

	"bodkin/api"
	"bodkin/marks"
)

// far is the greatest place that is promised.
const far = 1 << 40

// wrongNumbers are out of every range; sums of two of them wrap round.
var wrongNumbers = []int{math.MinInt, math.MinInt + 1, -far, -1 << 32, -2, -1, far + 1, math.MaxInt - 1, math.MaxInt}

// numbers answers numbers that look mixed, the same ones at each run.
func numbers(seed uint64) func(below int) int {
	return func(below int) int {
		seed = seed*6364136223846793005 + 1442695040888963407
		return int(seed>>33) % below
	}
}

// textOf answers a text of n bytes; what stands in it makes no difference.
func textOf(n int) string {
	return strings.Repeat("a\xff\r\n", n/4+1)[:n]
}

// deltasUpTo lists all deltas whose At and lengths are at most n.
func deltasUpTo(n int) []api.Delta {
	var list []api.Delta
	for at := range n + 1 {
		for out := range n + 1 {
			for in := range n + 1 {
				list = append(list, api.Delta{At: at, Out: textOf(out), In: textOf(in)})
			}
		}
	}
	return list
}

func holdMoved(t *testing.T, at int, deltas ...api.Delta) {
	t.Helper()
	if got, want := marks.Moved(at, deltas...), goesAlong(at, deltas); got != want {
		t.Fatalf("P10.1: Moved(%d, %.99v): %d, want %d", at, deltas, got, want)
	}
}

// TestMovedByOne has every place about every short delta.
func TestMovedByOne(t *testing.T) {
	for _, d := range deltasUpTo(5) {
		for at := range 15 {
			holdMoved(t, at, d)
		}
	}
}

// TestMovedByTwo has two deltas in both orders: the second is about what the first one left.
func TestMovedByTwo(t *testing.T) {
	list := deltasUpTo(3)
	for _, first := range list {
		for _, second := range list {
			for at := range 9 {
				holdMoved(t, at, first, second)
			}
		}
	}
}

func TestMovedWrittenDown(t *testing.T) {
	for _, c := range []struct {
		at     int
		deltas []api.Delta
		want   int
	}{
		{0, nil, 0},
		{7, nil, 7},
		{far, []api.Delta{}, far},
		{7, []api.Delta{{}}, 7},
		{7, []api.Delta{{At: 7}, {At: 6}, {At: 8}}, 7},
		{0, []api.Delta{{In: "ab"}}, 0},
		{1, []api.Delta{{In: "ab"}}, 3},
		{0, []api.Delta{{Out: "ab", In: "abc"}}, 0},
		{1, []api.Delta{{Out: "ab", In: "abc"}}, 0},
		{2, []api.Delta{{Out: "ab", In: "abc"}}, 3},
		{2, []api.Delta{{Out: "ab", In: "ab"}}, 2},
		{1, []api.Delta{{Out: "ab", In: "ab"}}, 0},
		{3, []api.Delta{{At: 4, Out: "ab", In: "c"}}, 3},
		{4, []api.Delta{{At: 4, Out: "ab", In: "c"}}, 4},
		{5, []api.Delta{{At: 4, Out: "ab", In: "c"}}, 4},
		{6, []api.Delta{{At: 4, Out: "ab", In: "c"}}, 5},
		{7, []api.Delta{{At: 4, Out: "ab", In: "c"}}, 6},
		{5, []api.Delta{{At: 4, Out: "a"}}, 4},
		{5, []api.Delta{{At: 4, Out: "a", In: "\u4e00"}}, 7},
		{2, []api.Delta{{At: 1, In: "x"}, {At: 3, In: "y"}, {At: 2, In: "z"}}, 4},
		{4, []api.Delta{{At: 0, Out: "ab"}, {At: 0, Out: "c"}, {At: 0, Out: "d"}}, 0},
		{far, []api.Delta{{At: far, Out: "ab", In: "xyz"}}, far},
		{far, []api.Delta{{At: far - 1, Out: "a", In: "xyz"}}, far + 2},
		{far, []api.Delta{{At: far - 1, Out: "ab", In: "xyz"}}, far - 1},
		{far, []api.Delta{{At: 0, Out: "ab", In: "xyz"}}, far + 1},
		{0, []api.Delta{{At: far, Out: "ab", In: "xyz"}}, 0},
		{far, []api.Delta{{At: 0, In: "x"}, {At: far, In: "yz"}, {At: far, Out: "yz"}}, far + 1},
	} {
		if got := marks.Moved(c.at, c.deltas...); got != c.want {
			t.Errorf("P10.1: Moved(%d, %v): %d, want %d", c.at, c.deltas, got, c.want)
		}
	}
}

// TestMovedByLongTexts has texts as long as the greatest text. They are only asked for their length, so that no memory is behind them.
func TestMovedByLongTexts(t *testing.T) {
	long := unsafe.String(unsafe.SliceData(make([]byte, 1<<30)), 1<<30)
	places := []int{0, 1, 2, 1<<30 - 1, 1 << 30, 1<<30 + 1, 1<<31 - 1, 1 << 31, 1<<32 - 1, 1 << 32, 1<<32 + 1, far - 1<<30, far - 1, far}
	for _, p := range places {
		for _, at := range places {
			holdMoved(t, p, api.Delta{At: at, Out: long})
			holdMoved(t, p, api.Delta{At: at, In: long})
			holdMoved(t, p, api.Delta{At: at, Out: long[1:], In: "x"}, api.Delta{At: at, Out: "x", In: long[2:]})
		}
	}
}

// TestMovedByMany has long runs of deltas, each about where the place was brought by those ahead of it.
func TestMovedByMany(t *testing.T) {
	next := numbers(7)
	for range 200 {
		first := next(1000)
		at := first
		var deltas []api.Delta
		for range 1 + next(200) {
			d := api.Delta{At: max(at-10+next(20), 0), Out: textOf(next(20)), In: textOf(next(20))}
			if next(4) == 0 {
				d.Out = ""
			}
			deltas = append(deltas, d)
			at = goesTo(at, d)
			holdMoved(t, first, deltas...)
		}
	}
}

// TestMovedByWrongNumbers: of places out of their range it is only promised that the call ends. Here no number wraps round either (R7).
func TestMovedByWrongNumbers(t *testing.T) {
	list := append([]int{0, 1, 5, far}, wrongNumbers...)
	for _, p := range list {
		for _, at := range list {
			for _, texts := range [][2]string{{}, {"abc", ""}, {"", "abc"}, {"a", "bcd"}, {"abc", "d"}} {
				d := api.Delta{At: at, Out: texts[0], In: texts[1]}
				holdMoved(t, p, d)
				holdMoved(t, p, d, d, d)
			}
		}
	}
}

func TestGood(t *testing.T) {
	for c := range 256 {
		if got := marks.Good(byte(c)); got != isName(byte(c)) {
			t.Errorf("P10.2: Good(%q): %v", rune(c), got)
		}
	}
	for _, c := range []byte{'@', 'a', 'b', 'm', 'y', 'z'} {
		if !marks.Good(c) {
			t.Errorf("P10.2: %q is no name", c)
		}
	}
	for _, c := range []byte{0, '?', 'A', 'Z', '`', '{', '0', ' ', 'a' | 0x80, '@' | 0x80, 255} {
		if marks.Good(c) {
			t.Errorf("P10.2: %q is a name", c)
		}
	}
}

// pair is a set, and the plain list that is kept beside it.
type pair struct {
	s *marks.Set
	p *plain
}

func newPair(t *testing.T, list ...api.Mark) pair {
	t.Helper()
	x := pair{marks.New(list...), &plain{}}
	if x.s == nil {
		t.Fatalf("P10.3: New(%v): nil", list)
	}
	x.p.load(list)
	x.same(t, "P10.3", "New")
	return x
}

// emptyPairs answers the sets that are empty in one way or the other.
func emptyPairs(t *testing.T) map[string]pair {
	t.Helper()
	cleared := newPair(t, api.Mark{Name: 'a', At: 1}, api.Mark{Name: '@', At: 2})
	cleared.do(t, call{name: "Clear"})
	return map[string]pair{
		"New()":           newPair(t),
		"cleared":         cleared,
		"the zero Set":    {&marks.Set{}, &plain{}},
		"nil":             {nil, &plain{keepsNone: true}},
		"a zero's clone":  {(&marks.Set{}).Clone(), &plain{}},
		"a clone of nil":  {(*marks.Set)(nil).Clone(), &plain{keepsNone: true}},
		"New of no marks": newPair(t, api.Mark{Name: 'A', At: 1}, api.Mark{Name: 'a', At: -1}),
	}
}

// same holds all that the set tells against the plain list.
func (x pair) same(t *testing.T, promise, behind string) {
	t.Helper()
	want := x.p.all()
	if got := x.s.All(); !slices.Equal(got, want) {
		t.Fatalf("%s: behind %s: %v, want %v", promise, behind, got, want)
	}
	if n := x.s.Len(); n != len(want) {
		t.Fatalf("P10.5: behind %s: Len %d, want %d", behind, n, len(want))
	}
}

// sameNames holds what Get answers of every byte against the plain list.
func (x pair) sameNames(t *testing.T) {
	t.Helper()
	for c := range 256 {
		at, e := x.s.Get(byte(c))
		if want, wantE := x.p.get(byte(c)); at != want || e != wantE {
			t.Fatalf("P10.4: Get(%q) of %v: %d, %v, want %d, %v", rune(c), x.p.list, at, e, want, wantE)
		}
	}
}

// call is a call that works on a set.
type call struct {
	name   string
	mark   byte
	at     int
	marks  []api.Mark
	deltas []api.Delta
	to     func(at int) int
}

// snapper asks a function, and writes down what it was asked.
type snapper struct {
	to    func(at int) int
	asked []int
}

func (s *snapper) Snap(at int) int {
	s.asked = append(s.asked, at)
	return s.to(at)
}

// onSet carries the call out by the package, and tells what was asked of a Snapper.
func (c call) onSet(s *marks.Set) (int, api.Errno, []int) {
	switch c.name {
	case "Put":
		return 0, s.Put(c.mark, c.at), nil
	case "Get":
		at, e := s.Get(c.mark)
		return at, e, nil
	case "Drop":
		return 0, s.Drop(c.mark), nil
	case "Load":
		s.Load(c.marks)
	case "Move":
		s.Move(c.deltas...)
	case "Snap":
		to := &snapper{to: c.to}
		return s.Snap(to), api.OK, to.asked
	case "Clear":
		s.Clear()
	}
	return 0, api.OK, nil
}

// onPlain carries the call out by the chapter's words.
func (c call) onPlain(p *plain) (int, api.Errno, []int) {
	switch c.name {
	case "Put":
		return 0, p.put(c.mark, c.at), nil
	case "Get":
		at, e := p.get(c.mark)
		return at, e, nil
	case "Drop":
		return 0, p.drop(c.mark), nil
	case "Load":
		p.load(c.marks)
	case "Move":
		p.move(c.deltas)
	case "Snap":
		went, asked := p.snap(c.to)
		return went, api.OK, asked
	case "Clear":
		p.list = nil
	}
	return 0, api.OK, nil
}

// promises tells which promise a call is about.
func promises(name string) string {
	switch name {
	case "Load":
		return "P10.3"
	case "Move":
		return "P10.6"
	case "Snap":
		return "P10.7"
	case "Clear":
		return "P10.8"
	}
	return "P10.4"
}

// do carries the call out on both, and holds what they answer and become against each other.
func (x pair) do(t *testing.T, c call) {
	t.Helper()
	before := x.p.all()
	n, e, asked := c.onSet(x.s)
	wantN, wantE, wantAsked := c.onPlain(x.p)
	if n != wantN || e != wantE || !slices.Equal(asked, wantAsked) {
		t.Fatalf("%s: %s(%q, %d) of %v: %d, %v, asked %v, want %d, %v, asked %v", promises(c.name), c.name, c.mark, c.at, before, n, e, asked, wantN, wantE, wantAsked)
	}
	if wantE != api.OK && !slices.Equal(x.p.all(), before) {
		t.Fatalf("the test itself: %s was refused and changed %v", c.name, before)
	}
	x.same(t, promises(c.name), c.name)
}

// fullSet answers a mark of every name, the last name first.
func fullSet() []api.Mark {
	var list []api.Mark
	for i := range len(names) {
		list = append(list, api.Mark{Name: names[len(names)-1-i], At: i * i})
	}
	return list
}

// TestEveryByte has every byte as a name, in a set that has no mark, all marks, or every other one.
func TestEveryByte(t *testing.T) {
	full := fullSet()
	var half []api.Mark
	for i := 0; i < len(full); i += 2 {
		half = append(half, full[i])
	}
	for _, list := range [][]api.Mark{nil, full, half} {
		for c := range 256 {
			for _, at := range append([]int{0, 1, far}, wrongNumbers...) {
				x := newPair(t, list...)
				x.do(t, call{name: "Put", mark: byte(c), at: at})
				x.sameNames(t)
				x.do(t, call{name: "Put", mark: byte(c), at: 3})
				x.do(t, call{name: "Get", mark: byte(c)})
				x.do(t, call{name: "Drop", mark: byte(c)})
				x.do(t, call{name: "Drop", mark: byte(c)})
				x.sameNames(t)
			}
		}
	}
}

func TestErrorsWrittenDown(t *testing.T) {
	s := marks.New(api.Mark{Name: 'm', At: 5})
	for _, c := range []struct {
		name byte
		at   int
		want api.Errno
	}{{'M', 0, api.ErrKind}, {'M', -1, api.ErrKind}, {0, 1, api.ErrKind}, {'`', 1, api.ErrKind}, {'{', 1, api.ErrKind}, {'?', 1, api.ErrKind}, {'m', -1, api.ErrRange}, {'n', math.MinInt, api.ErrRange}, {'@', -1, api.ErrRange}} {
		if e := s.Put(c.name, c.at); e != c.want {
			t.Errorf("P10.4: Put(%q, %d): %v, want %v", c.name, c.at, e, c.want)
		}
	}
	for _, c := range []struct {
		name byte
		want api.Errno
	}{{'M', api.ErrKind}, {0, api.ErrKind}, {'A', api.ErrKind}, {'{', api.ErrKind}, {'a', api.ErrNoMark}, {'z', api.ErrNoMark}, {'@', api.ErrNoMark}} {
		if at, e := s.Get(c.name); at != 0 || e != c.want {
			t.Errorf("P10.4: Get(%q): %d, %v, want 0, %v", c.name, at, e, c.want)
		}
		if e := s.Drop(c.name); e != c.want {
			t.Errorf("P10.4: Drop(%q): %v, want %v", c.name, e, c.want)
		}
	}
	if got := s.All(); !slices.Equal(got, []api.Mark{{Name: 'm', At: 5}}) {
		t.Error("P10.4: refusals changed the set:", got)
	}
	if at, e := s.Get('m'); at != 5 || e != api.OK {
		t.Error("P10.4: Get('m'):", at, e)
	}
	if e := s.Put('m', 0); e != api.OK {
		t.Error("P10.4: Put('m', 0):", e)
	}
	if at, e := s.Get('m'); at != 0 || e != api.OK {
		t.Error("P10.4: Get('m') at 0:", at, e)
	}
	if e := s.Drop('m'); e != api.OK || s.Len() != 0 {
		t.Error("P10.4: Drop('m'):", e, s.Len())
	}
}

// TestLoad has lists with several marks of one name, with what is no mark between them, and empty ones.
func TestLoad(t *testing.T) {
	lists := [][]api.Mark{
		nil,
		{},
		{{Name: 'a', At: 0}},
		{{Name: 'a', At: 1}, {Name: 'a', At: 2}},
		{{Name: 'a', At: 2}, {Name: 'a', At: 1}, {Name: 'a', At: 2}, {Name: 'a', At: 0}},
		{{Name: 'a', At: 7}, {Name: 'a', At: -1}},
		{{Name: 'a', At: -1}, {Name: 'a', At: 7}},
		{{Name: 'z', At: 1}, {Name: '@', At: 2}, {Name: 'a', At: 3}, {Name: 'Z', At: 4}, {Name: 0, At: 5}, {Name: '@', At: far}},
		{{Name: 'A', At: 1}, {Name: '?', At: 1}, {Name: '`', At: 1}, {Name: '{', At: 1}, {Name: 255, At: -1}},
		{{Name: 'q', At: math.MaxInt}, {Name: 'r', At: math.MinInt}, {}},
		fullSet(),
	}
	for _, first := range lists {
		for _, second := range lists {
			x := newPair(t, first...)
			x.do(t, call{name: "Load", marks: second})
			x.sameNames(t)
			x.do(t, call{name: "Load"})
			x.do(t, call{name: "Load", marks: first})
		}
	}
	s := marks.New(api.Mark{Name: 'a', At: 7}, api.Mark{Name: 'b', At: 1}, api.Mark{Name: 'a', At: 8}, api.Mark{Name: 'a', At: -1})
	if got := s.All(); !slices.Equal(got, []api.Mark{{Name: 'a', At: 8}, {Name: 'b', At: 1}}) {
		t.Error("P10.3: of several the last mark counts:", got)
	}
}

// TestAllOrder lays the names in many orders: they are told in one.
func TestAllOrder(t *testing.T) {
	next := numbers(3)
	for range 300 {
		list := fullSet()
		for i := range list {
			j := i + next(len(list)-i)
			list[i], list[j] = list[j], list[i]
		}
		s := marks.New(list...)
		var told []byte
		for _, m := range s.All() {
			told = append(told, m.Name)
		}
		if string(told) != names || s.Len() != 27 {
			t.Fatalf("P10.5: %d marks told as %q", s.Len(), told)
		}
	}
}

func TestMove(t *testing.T) {
	for _, d := range deltasUpTo(3) {
		x := newPair(t, fullSet()...)
		x.do(t, call{name: "Move", deltas: []api.Delta{d}})
		x.do(t, call{name: "Move"})
		x.do(t, call{name: "Move", deltas: []api.Delta{d, {At: 2, In: "ab"}, d}})
	}
	s := marks.New(api.Mark{Name: '@', At: 3}, api.Mark{Name: 'a', At: 4}, api.Mark{Name: 'b', At: 5}, api.Mark{Name: 'c', At: far})
	s.Move(api.Delta{At: 3, Out: "ab", In: "xyz"}, api.Delta{At: 0, In: "-"})
	if got := s.All(); !slices.Equal(got, []api.Mark{{Name: '@', At: 4}, {Name: 'a', At: 4}, {Name: 'b', At: 7}, {Name: 'c', At: far + 2}}) {
		t.Error("P10.6:", got)
	}
}

// TestMoveByWrongNumbers: each mark goes where Moved takes it, whatever that is.
func TestMoveByWrongNumbers(t *testing.T) {
	list := append([]int{0, 1, 5, far}, wrongNumbers...)
	for _, p := range list {
		for _, at := range list {
			s := marks.New(api.Mark{Name: 'a', At: max(p, 0)}, api.Mark{Name: '@', At: 3})
			d := api.Delta{At: at, Out: "abc", In: "d"}
			s.Move(d, d)
			want := []api.Mark{{Name: '@', At: marks.Moved(3, d, d)}, {Name: 'a', At: marks.Moved(max(p, 0), d, d)}}
			if got := s.All(); !slices.Equal(got, want) {
				t.Errorf("P10.6: %d by %v twice: %v, want %v", p, d, got, want)
			}
		}
	}
}

// TestSnap has Snappers that answer the same offset, another one, one below 0, and a mixture of these.
func TestSnap(t *testing.T) {
	for _, to := range []func(at int) int{
		func(at int) int { return at },
		func(at int) int { return 0 },
		func(at int) int { return at + 1 },
		func(at int) int { return -1 },
		func(at int) int { return math.MinInt },
		func(at int) int { return -at },
		func(at int) int { return math.MaxInt },
		func(at int) int { return (at + 9) / 10 * 10 },
		func(at int) int { return 100 - at },
		func(at int) int { return []int{at, at + 1, -1, at - 1, -at}[at%5] },
	} {
		for _, list := range [][]api.Mark{nil, {{Name: 'q', At: 0}}, {{Name: 'b', At: 7}, {Name: '@', At: 7}, {Name: 'a', At: 7}}, fullSet()} {
			x := newPair(t, list...)
			x.do(t, call{name: "Snap", to: to})
			x.do(t, call{name: "Snap", to: to})
			if n := x.s.Snap(nil); n != 0 {
				t.Error("P10.7: Snap(nil):", n)
			}
			x.same(t, "P10.7", "Snap(nil)")
		}
	}
}

func TestSnapWrittenDown(t *testing.T) {
	s := marks.New(api.Mark{Name: 'c', At: 1}, api.Mark{Name: '@', At: 30}, api.Mark{Name: 'b', At: 11}, api.Mark{Name: 'a', At: 11})
	to := &snapper{to: func(at int) int { return []int{-1, 12, 0}[at%3] }}
	// 30 is told -1 and stays; 11 is told 0, twice; 1 is told 12.
	if n := s.Snap(to); n != 3 || !slices.Equal(to.asked, []int{30, 11, 11, 1}) {
		t.Errorf("P10.7: %d went, asked %v", n, to.asked)
	}
	if got := s.All(); !slices.Equal(got, []api.Mark{{Name: '@', At: 30}, {Name: 'a', At: 0}, {Name: 'b', At: 0}, {Name: 'c', At: 12}}) {
		t.Error("P10.7:", got)
	}
}

// plainSnapper is a Snapper that is no pointer.
type plainSnapper int

func (p plainSnapper) Snap(at int) int { return at + int(p) }

func TestSnapByAValue(t *testing.T) {
	s := marks.New(api.Mark{Name: 'a', At: 1}, api.Mark{Name: 'b', At: 5})
	if n := s.Snap(plainSnapper(-2)); n != 1 {
		t.Error("P10.7:", n)
	}
	if got := s.All(); !slices.Equal(got, []api.Mark{{Name: 'a', At: 1}, {Name: 'b', At: 3}}) {
		t.Error("P10.7:", got)
	}
}

// TestSnapThatPanics: a call that the chapter lists never panics (R1). A Snapper that does has told nothing: the mark stays, and the next one is asked.
func TestSnapThatPanics(t *testing.T) {
	s := marks.New(api.Mark{Name: 'a', At: 1}, api.Mark{Name: 'b', At: 5}, api.Mark{Name: 'c', At: 9})
	to := &snapper{to: func(at int) int { return []int{4, 3, 2, 1, 0}[at-5] }}
	if n := s.Snap(to); n != 2 || !slices.Equal(to.asked, []int{1, 5, 9}) {
		t.Errorf("R1: %d went, asked %v", n, to.asked)
	}
	if got := s.All(); !slices.Equal(got, []api.Mark{{Name: 'a', At: 1}, {Name: 'b', At: 4}, {Name: 'c', At: 0}}) {
		t.Error("R1:", got)
	}
	var none *snapper
	if n := s.Snap(none); n != 0 || s.Len() != 3 {
		t.Error("R1: a nil pointer as a Snapper:", n, s.Len())
	}
	s.Snap(&snapper{to: func(at int) int { *s = marks.Set{}; return at + 1 }})
}

// TestEmptySets has every call on every set that is empty, and those that are no nil are filled then.
func TestEmptySets(t *testing.T) {
	every := []call{
		{name: "Get", mark: 'a'}, {name: "Get", mark: 'A'}, {name: "Drop", mark: '@'}, {name: "Drop", mark: '?'},
		{name: "Move", deltas: []api.Delta{{In: "ab"}}}, {name: "Move"}, {name: "Snap", to: func(at int) int { return at + 1 }},
		{name: "Clear"}, {name: "Load"}, {name: "Put", mark: 'A', at: 1}, {name: "Put", mark: 'A', at: -1}, {name: "Put", mark: 'a', at: -1},
		{name: "Put", mark: 'q', at: 7}, {name: "Load", marks: []api.Mark{{Name: 'b', At: 1}, {Name: '@', At: 0}, {Name: 'b', At: 2}}},
	}
	for _, first := range every {
		for name, x := range emptyPairs(t) {
			if n := x.s.Snap(nil); n != 0 {
				t.Errorf("P10.7: Snap(nil) of %s: %d", name, n)
			}
			x.sameNames(t)
			x.do(t, first)
			for _, second := range every {
				x.do(t, second)
			}
			x.sameNames(t)
			if c := x.s.Clone(); (c == nil) != (x.s == nil) {
				t.Errorf("P10.8: a clone of %s: %v", name, c)
			}
		}
	}
}

func TestNilWrittenDown(t *testing.T) {
	var s *marks.Set
	if e := s.Put('A', -1); e != api.ErrKind {
		t.Error("P10.8: Put('A', -1) of nil:", e)
	}
	if e := s.Put('a', -1); e != api.ErrRange {
		t.Error("P10.8: Put('a', -1) of nil:", e)
	}
	if e := s.Put('a', 0); e != api.ErrNoMark {
		t.Error("P10.8: Put('a', 0) of nil:", e)
	}
	if s.Clone() != nil {
		t.Error("P10.8: nil has a clone")
	}
	if c := marks.New().Clone(); c == nil || c.Put('a', 1) != api.OK {
		t.Error("P10.8: the clone of an empty set keeps no mark")
	}
}

// someCall answers a call of any kind.
func someCall(next func(int) int) call {
	c := call{name: []string{"Put", "Put", "Put", "Put", "Get", "Drop", "Drop", "Move", "Move", "Snap", "Load", "Clear"}[next(12)]}
	if (c.name == "Load" || c.name == "Clear") && next(5) > 0 {
		c.name = "Put"
	}
	c.mark, c.at = names[next(len(names))], next(60)
	switch next(12) {
	case 0:
		c.mark = byte(next(256))
	case 1:
		c.at = []int{-1, math.MinInt, far}[next(3)]
	}
	for range next(6) {
		m := api.Mark{Name: names[next(6)], At: next(60) - 5}
		if next(6) == 0 {
			m.Name = byte(next(256))
		}
		c.marks = append(c.marks, m)
		c.deltas = append(c.deltas, api.Delta{At: next(60), Out: textOf(next(9)), In: textOf(next(9))})
	}
	step, low := 1+next(6), next(40)
	c.to = func(at int) int {
		if at < low {
			return at - low
		}
		return (at + step - 1) / step * step
	}
	return c
}

// TestManyCalls has long runs of calls, with all that is seen behind each of them; and a clone now and then, whose run goes another way.
func TestManyCalls(t *testing.T) {
	for seed := range 12 {
		next := numbers(uint64(seed))
		pairs := []pair{newPair(t), {&marks.Set{}, &plain{}}}
		for range 3000 {
			x := pairs[next(len(pairs))]
			x.do(t, someCall(next))
			if next(30) == 0 {
				x.sameNames(t)
			}
			if next(40) == 0 {
				pairs = append(pairs, pair{x.s.Clone(), x.p.clone()})
				pairs = pairs[max(len(pairs)-6, 0):]
			}
			for _, y := range pairs {
				y.same(t, "P10.8", "a call on another set")
			}
		}
	}
}

// TestClone does each kind of call to a set or to its clone, and looks at the other one.
func TestClone(t *testing.T) {
	for _, list := range [][]api.Mark{nil, {{Name: 'b', At: 3}}, fullSet()} {
		for _, c := range []call{
			{name: "Put", mark: 'b', at: 9}, {name: "Put", mark: 'c', at: 9}, {name: "Drop", mark: 'b'},
			{name: "Load", marks: []api.Mark{{Name: 'x', At: 1}}}, {name: "Load"}, {name: "Clear"},
			{name: "Move", deltas: []api.Delta{{In: "ab"}}}, {name: "Snap", to: func(at int) int { return at + 1 }},
		} {
			x := newPair(t, list...)
			y := pair{x.s.Clone(), x.p.clone()}
			y.same(t, "P10.8", "Clone")
			x.do(t, c)
			y.same(t, "P10.8", c.name+" of what it was cloned from")
			z := pair{y.s.Clone(), y.p.clone()}
			z.do(t, c)
			y.same(t, "P10.8", c.name+" of its clone")
		}
	}
}

// TestMemory: what is handed in is neither changed nor kept, and what is answered is new each time (R3).
func TestMemory(t *testing.T) {
	room := []api.Mark{{Name: 'b', At: 3}, {Name: 'A', At: 1}, {Name: '@', At: 2}, {Name: 'b', At: 4}, {Name: 'y', At: 9}, {Name: 'z', At: 9}}
	kept := slices.Clone(room)
	s := marks.New(room[:4]...)
	other := &marks.Set{}
	other.Load(room[:4])
	if !slices.Equal(room, kept) {
		t.Error("R3: a list that was handed in has changed:", room)
	}
	for i := range room {
		room[i] = api.Mark{Name: 'q', At: 77}
	}
	want := []api.Mark{{Name: '@', At: 2}, {Name: 'b', At: 4}}
	for _, set := range []*marks.Set{s, other} {
		first := set.All()
		if !slices.Equal(first, want) {
			t.Error("R3: a list that was handed in is kept:", first)
		}
		whole := first[:cap(first)]
		for i := range whole {
			whole[i] = api.Mark{Name: 'x', At: 1}
		}
		if got := set.All(); !slices.Equal(got, want) {
			t.Error("P10.5: an answer is not new memory:", got)
		}
	}
	answer := s.All()
	s.Put('b', 8)
	s.Clear()
	if !slices.Equal(answer, want) {
		t.Error("P10.5: an answer has changed:", answer)
	}
}

func TestDeltasStay(t *testing.T) {
	deltas := []api.Delta{{At: 1, Out: "ab", In: "c"}, {At: 0, Out: "", In: "xy"}, {At: 9, Out: "z", In: ""}}
	kept := slices.Clone(deltas)
	s := marks.New(fullSet()...)
	s.Move(deltas[:2]...)
	marks.Moved(7, deltas[:2]...)
	if !slices.Equal(deltas, kept) {
		t.Error("R3: deltas that were handed in have changed:", deltas)
	}
	before := s.All()
	for i := range deltas {
		deltas[i] = api.Delta{At: 0, In: "long"}
	}
	if got := s.All(); !slices.Equal(got, before) {
		t.Error("R3: deltas that were handed in are kept:", got)
	}
}
