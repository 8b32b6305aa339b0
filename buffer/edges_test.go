package buffer_test

import (
	"fmt"
	"math"
	"strings"
	"testing"

	"bodkin/api"
	"bodkin/buffer"
)

// This file has the edges that the chapter names, each with its answer written down.

// made answers a buffer behind calls that all answer OK.
func made(t *testing.T, c api.Config, calls ...call) *buffer.Buffer {
	t.Helper()
	b := buffer.New(c)
	for _, c := range calls {
		if e := onBuffer(b, c); e != api.OK {
			t.Fatalf("%s: %v: %v", promise(c.name), c, e)
		}
	}
	return b
}

// marksOf tells the marks in one text.
func marksOf(b *buffer.Buffer) string {
	var list []string
	for _, m := range b.Marks() {
		list = append(list, fmt.Sprintf("%c%d", m.Name, m.At))
	}
	return strings.Join(list, " ")
}

// state is all that can be seen of a buffer, in one text.
func state(b *buffer.Buffer) string {
	return fmt.Sprint(tell(b), ", marks ", marksOf(b))
}

// hold holds text, cursor, marks, groups and run against what is wanted.
func hold(t *testing.T, of string, b *buffer.Buffer, text string, cursor int, marks string, undo, redo, run int) {
	t.Helper()
	u, r := b.Groups()
	if b.Text() != text || b.Cursor() != cursor || marksOf(b) != marks || u != undo || r != redo || b.Run() != run {
		t.Errorf("%s: %s, want %q, cursor %d, groups %d and %d, run %d, marks %s", of, state(b), text, cursor, undo, redo, run, marks)
	}
}

// refuse holds an error against what is wanted, and the buffer against what it was.
func refuse(t *testing.T, of string, b *buffer.Buffer, c call, want api.Errno) {
	t.Helper()
	was, store := state(b), b.Store()
	if got := onBuffer(b, c); got != want {
		t.Errorf("%s: %v: %v, want %v", of, c, got, want)
	}
	if state(b) != was || b.Store() != store {
		t.Errorf("%s: %v, which was refused, made %s of %s", of, c, state(b), was)
	}
}

func TestNewWrittenDown(t *testing.T) {
	const most = 1073741824
	for _, c := range []struct {
		c             api.Config
		kind, backend api.Kind
		lo, hi, limit int
	}{
		{api.Config{}, api.KindHybrid, api.KindGap, 0, 1, 0},
		{api.Config{Store: api.KindGap, Text: 1}, api.KindGap, api.KindGap, 0, 1, 1},
		{api.Config{Store: api.KindRope, Low: 5, High: 3, Text: most}, api.KindRope, api.KindRope, 5, 6, most},
		{api.Config{Store: api.KindHybrid, Low: 3, High: 5, Text: most + 1}, api.KindHybrid, api.KindGap, 3, 5, most},
		{api.Config{Store: 4, Low: -1, High: -9, Text: -1}, api.KindHybrid, api.KindGap, 0, 1, 0},
		{api.Config{Store: -1, Low: math.MinInt, High: math.MinInt, Text: math.MinInt}, api.KindHybrid, api.KindGap, 0, 1, 0},
		{api.Config{Store: math.MaxInt, Low: math.MaxInt, High: math.MaxInt, Text: math.MaxInt}, api.KindHybrid, api.KindGap, most, math.MaxInt, most},
	} {
		c.c.Kill, c.c.History, c.c.Prompt, c.c.Width = -7, math.MaxInt, "passed over", -1
		b := buffer.New(c.c)
		s := b.Store()
		lo, hi := s.Thresholds()
		if s.Kind() != c.kind || b.Backend() != c.backend || lo != c.lo || hi != c.hi || s.Limit() != c.limit {
			t.Errorf("P15.1: New(%+v): kind %d, backend %d, thresholds %d and %d, limit %d", c.c, s.Kind(), b.Backend(), lo, hi, s.Limit())
		}
		hold(t, "P15.1: New", b, "", 0, "", 0, 0, 0)
		if b.Counts() != (api.Counts{}) {
			t.Errorf("P15.1: New(%+v): counts %v", c.c, b.Counts())
		}
	}
}

func TestBounds(t *testing.T) {
	for bound, want := range map[int]int{
		math.MinInt: 0, -1: 0, 0: 0, 1: 1, 2: 2, 7: 7, 999: 999, 1000: 1000, 1001: 1000, math.MaxInt: 1000,
	} {
		b := buffer.New(api.Config{Text: 2000, Undo: bound})
		for n := range want + 3 {
			if e := b.Do([]api.Edit{{At: n, Put: "a"}}, n+1, false); e != api.OK {
				t.Fatal("P15.5: Do:", e)
			}
			if undo, redo := b.Groups(); undo != min(n+1, want) || redo != 0 {
				t.Fatalf("P15.1: the bound %d behind %d Dos: %d groups and %d", bound, n+1, undo, redo)
			}
		}
		for n := range want {
			if e := b.Undo(); e != api.OK || b.Len() != want+2-n || b.Cursor() != b.Len() {
				t.Fatalf("P15.6: the bound %d: Undo: %v, %d bytes", bound, e, b.Len())
			}
		}
		refuse(t, "P15.5: beyond the bound", b, undo, api.ErrNoUndo)
		for n := range want {
			if e := b.Redo(); e != api.OK || b.Len() != 4+n {
				t.Fatalf("P15.6: the bound %d: Redo: %v, %d bytes", bound, e, b.Len())
			}
		}
		refuse(t, "P15.6: all is done again", b, redo, api.ErrNoRedo)
	}
}

func TestGoWrittenDown(t *testing.T) {
	b := made(t, api.Config{Text: 20}, reset("a\u0301\r\n\u4e00\u0301"))
	for at, want := range []int{0, 3, 3, 3, 5, 5, 10, 10, 10, 10, 10} {
		if e := b.Go(at); e != api.OK || b.Cursor() != want {
			t.Errorf("P15.3: Go(%d): %v, cursor %d, want %d", at, e, b.Cursor(), want)
		}
	}
	for _, at := range []int{math.MinInt, -2, -1, 11, 12, math.MaxInt} {
		refuse(t, "P15.3", b, goTo(at), api.ErrRange)
	}
}

func TestSetMarkWrittenDown(t *testing.T) {
	b := made(t, api.Config{Text: 20}, reset("a\u0301\r\n\u4e00\u0301"), goTo(5))
	for at, want := range []int{0, 3, 3, 3, 5, 5, 10, 10, 10, 10, 10} {
		e := b.SetMark('m', at)
		if got, found := b.Mark('m'); e != api.OK || found != api.OK || got != want || b.Cursor() != 5 {
			t.Errorf("P15.4: SetMark of m at %d: %v, %v, mark %d, want %d", at, e, found, got, want)
		}
	}
	for n := range 256 {
		name := byte(n)
		good := name == '@' || 'a' <= name && name <= 'z'
		if name != 'm' {
			if at, e := b.Mark(name); at != 0 || e != api.ErrNoMark {
				t.Errorf("P15.2: Mark(%q), which isn't set: %d, %v", name, at, e)
			}
		}
		for _, at := range []int{math.MinInt, -1, 0, 10, 11, math.MaxInt} {
			switch {
			case !good:
				refuse(t, "P15.4: the name comes ahead of the range", b, setMark(name, at), api.ErrNoMark)
			case at < 0 || at > 10:
				refuse(t, "P15.4", b, setMark(name, at), api.ErrRange)
			default:
				if e := b.SetMark(name, at); e != api.OK {
					t.Errorf("P15.4: SetMark(%q, %d): %v", name, at, e)
				}
			}
		}
	}
	want := "@10"
	for name := 'a'; name <= 'z'; name++ {
		want += fmt.Sprintf(" %c10", name)
	}
	if marksOf(b) != want {
		t.Errorf("P15.2: the marks %s, want %s", marksOf(b), want)
	}
}

// TestRefusedDo: each refusal leaves all as it was, in a run with marks and with a group that can be done again.
func TestRefusedDo(t *testing.T) {
	c := api.Config{Text: 10, Undo: 5, Low: 3, High: 6}
	beginnings := map[string][]call{
		"in a run":      {reset("ab"), setMark('a', 1), setMark('z', 2), do(3, true, edit(2, 0, "c")), do(-1, true, edit(3, 0, "d"))},
		"behind undoes": {reset("abcd"), setMark('@', 3), do(1, false, edit(0, 1, "x")), do(0, false, edit(0, 4, "1")), undo, undo},
	}
	for _, d := range []struct {
		c    call
		want api.Errno
	}{
		{do(-1, true, edit(-1, 0, "")), api.ErrRange},
		{do(-1, true, edit(0, -1, "")), api.ErrRange},
		{do(-1, true, edit(5, 0, "x")), api.ErrRange},
		{do(-1, true, edit(5, -1, "x")), api.ErrRange},
		{do(-1, true, edit(0, 5, "")), api.ErrRange},
		{do(-1, true, edit(4, 1, "")), api.ErrRange},
		{do(-1, true, edit(math.MaxInt, math.MaxInt, "")), api.ErrRange},
		{do(-1, true, edit(4, math.MaxInt, "")), api.ErrRange},
		{do(-1, true, edit(math.MaxInt, 4, "")), api.ErrRange},
		{do(-1, true, edit(1<<62, 1<<62, "")), api.ErrRange},
		{do(-1, true, edit(1, math.MaxInt, "")), api.ErrRange},
		{do(-1, true, edit(math.MinInt, math.MinInt, "")), api.ErrRange},
		// A later one is out of range, or is so only by the ones ahead of it.
		{do(-1, true, edit(0, 1, "x"), edit(9, 0, "y")), api.ErrRange},
		{do(-1, true, edit(0, 2, ""), edit(3, 0, "y")), api.ErrRange},
		{do(-1, true, edit(0, 2, ""), edit(0, 2, ""), edit(0, 1, "")), api.ErrRange},
		{do(-1, true, edit(0, 0, "12"), edit(7, 0, "3")), api.ErrRange},
		// A later one passes the limit, also if what comes behind it makes the text shorter again.
		{do(-1, true, edit(0, 0, "1234567")), api.ErrFull},
		{do(-1, true, edit(1, 1, "12345678")), api.ErrFull},
		{do(-1, true, edit(0, 4, "12345678901")), api.ErrFull},
		{do(-1, true, edit(0, 0, "123456"), edit(10, 0, "7")), api.ErrFull},
		{do(-1, true, edit(0, 0, "1234567"), edit(0, 7, "")), api.ErrFull},
		// Both errors in one Do: the first edit that can't be done tells, and of one edit the range.
		{do(-1, true, edit(0, 0, "1234567"), edit(99, 0, "")), api.ErrFull},
		{do(-1, true, edit(99, 0, ""), edit(0, 0, "1234567")), api.ErrRange},
		{do(-1, true, edit(5, 0, "1234567")), api.ErrRange},
		{do(-1, true, edit(0, -1, "1234567")), api.ErrRange},
		{do(-9, true, edit(0, 0, "1234567")), api.ErrFull},
		{do(99, true, edit(0, 0, "123456"), edit(0, 0, "7")), api.ErrFull},
		// The cursor.
		{do(-2, true, edit(0, 0, "x")), api.ErrRange},
		{do(math.MinInt, true, edit(0, 0, "x")), api.ErrRange},
		{do(6, true, edit(0, 0, "x")), api.ErrRange},
		{do(math.MaxInt, true, edit(0, 0, "x")), api.ErrRange},
		{do(4, true, edit(0, 1, "")), api.ErrRange},
		{do(5, false), api.ErrRange},
		{do(-2, false), api.ErrRange},
		{do(5, true, edit(0, 0, "xy"), edit(0, 2, "")), api.ErrRange},
		{do(5, true, edit(0, 1, "a")), api.ErrRange},
	} {
		for name, begun := range beginnings {
			b := made(t, c, begun...)
			if b.Text() != "abcd" {
				t.Fatalf("P15.5: %s: %q", name, b.Text())
			}
			refuse(t, "P15.5, P6: "+name, b, d.c, d.want)
			d.c.run = !d.c.run
			refuse(t, "P15.5, P6: "+name, b, d.c, d.want)
			// What comes next is as if there had been no refusal.
			x := pairOf(t, "Do", b, plainBehind(c, begun))
			x.do(t, do(-1, true, edit(4, 0, "\u0301")))
			x.throughAll(t)
		}
	}
}

// plainBehind answers the plain buffer behind calls.
func plainBehind(c api.Config, calls []call) *plain {
	p := newPlain(c)
	for _, c := range calls {
		onPlain(p, c)
	}
	return p
}

// TestDoUpToTheLimit: what just fits is done.
func TestDoUpToTheLimit(t *testing.T) {
	c := api.Config{Text: 10, Undo: 5}
	for text, d := range map[string]call{
		"123456abcd": do(10, false, edit(0, 0, "123456")),
		"0123456789": do(-1, false, edit(0, 4, "0123456789")),
		"a1234567cd": do(-1, false, edit(1, 1, "1234567")),
		"123abcd456": do(-1, false, edit(4, 0, "456"), edit(0, 0, "123")),
		"567890":     do(6, false, edit(0, 4, "1234567890"), edit(0, 4, "")),
		"":           do(0, false, edit(0, 4, "")),
	} {
		b := made(t, c, reset("abcd"), d)
		if b.Text() != text {
			t.Errorf("P15.5: %v: %q, want %q", d, b.Text(), text)
		}
	}
	b := made(t, api.Config{Text: math.MaxInt, Undo: 5}, do(1, false, edit(0, 0, "x")))
	hold(t, "P15.5: the greatest limit", b, "x", 1, "", 1, 0, 0)
}

// TestCursorOfDo: where the cursor and the marks go.
func TestCursorOfDo(t *testing.T) {
	for _, d := range []struct {
		c      call
		cursor int
		marks  string
	}{
		// Laid: at 0, at the length behind the edits, which may be longer or shorter, and within a cluster.
		{do(0, false, edit(0, 0, "x")), 0, "a2 b3 c4 d5"},
		{do(5, false, edit(0, 0, "x")), 5, "a2 b3 c4 d5"},
		{do(3, false, edit(0, 1, "")), 3, "a0 b1 c2 d3"},
		{do(2, false, edit(2, 0, "\u0301")), 4, "a1 b4 c5 d6"},
		{do(3, false, edit(2, 0, "\u0301")), 4, "a1 b4 c5 d6"},
		{do(0, false), 0, "a1 b2 c3 d4"},
		{do(4, false), 4, "a1 b2 c3 d4"},
		// Gone with the deltas: put in at it and ahead of it, cut about it, cut up to it, one edit behind the other.
		{do(-1, false, edit(2, 0, "xy")), 2, "a1 b2 c5 d6"},
		{do(-1, false, edit(1, 0, "xy")), 4, "a1 b4 c5 d6"},
		{do(-1, false, edit(1, 2, "xyz")), 1, "a1 b1 c4 d5"},
		{do(-1, false, edit(1, 1, "xyz")), 4, "a1 b4 c5 d6"},
		{do(-1, false, edit(0, 4, "wxyz")), 0, "a0 b0 c0 d4"},
		{do(-1, false, edit(0, 0, "x"), edit(3, 0, "y"), edit(0, 1, "")), 2, "a1 b2 c4 d5"},
		{do(-1, false, edit(3, 0, "x"), edit(0, 2, "y")), 1, "a0 b1 c2 d4"},
		// It is laid where it is said, whatever the deltas do.
		{do(2, false, edit(0, 2, "")), 2, "a0 b0 c1 d2"},
		// To a boundary only behind the last edit: in between, what stood at 2 was a mark's place.
		{do(-1, false, edit(2, 0, "\u0301"), edit(2, 2, "")), 2, "a1 b2 c3 d4"},
		{do(-1, false, edit(2, 0, "\n"), edit(2, 0, "\r")), 2, "a1 b2 c5 d6"},
		{do(-1, false, edit(1, 1, "\r"), edit(2, 1, "\n")), 3, "a1 b3 c3 d4"},
		{do(-1, false, edit(0, 0, "\u0301")), 4, "a3 b4 c5 d6"},
		{do(-1, false, edit(1, 0, "\u0301")), 4, "a3 b4 c5 d6"},
		{do(-1, false, edit(2, 2, "\xcc\x81")), 4, "a1 b4 c4 d4"},
		{do(-1, false, edit(2, 1, "\x81"), edit(1, 1, "\xcc")), 3, "a3 b3 c3 d4"},
		// Edits that are passed over.
		{do(-1, false, edit(0, 4, "abcd")), 2, "a1 b2 c3 d4"},
		{do(-1, false, edit(0, 4, "abcd"), edit(1, 2, "bc"), edit(4, 0, "")), 2, "a1 b2 c3 d4"},
		{do(-1, false, edit(0, 4, "abcd"), edit(0, 0, "x"), edit(1, 4, "abcd")), 3, "a2 b3 c4 d5"},
	} {
		b := made(t, api.Config{Text: 10, Undo: 5}, reset("abcd"), goTo(2), setMark('a', 1), setMark('b', 2), setMark('c', 3), setMark('d', 4), d.c)
		if b.Cursor() != d.cursor || marksOf(b) != d.marks {
			t.Errorf("P15.5: %v: %q, cursor %d, marks %s, want %d, %s", d.c, b.Text(), b.Cursor(), marksOf(b), d.cursor, d.marks)
		}
	}
}

// TestNothingDone: a Do without a delta makes no group and leaves those that can be done again, but it lays the cursor and ends the run.
func TestNothingDone(t *testing.T) {
	for _, edits := range [][]api.Edit{nil, {}, {edit(0, 0, "")}, {edit(4, 0, "")}, {edit(0, 1, "a")}, {edit(0, 4, "abcd"), edit(1, 2, "bc")}} {
		for _, run := range []bool{false, true} {
			typed := []call{do(1, true, edit(0, 0, "a")), do(-1, true, edit(1, 0, "bcd"))}
			b := made(t, api.Config{Text: 4, Undo: 5, Low: 1, High: 3}, typed...)
			hold(t, "P15.5: a run", b, "abcd", 1, "", 1, 0, 2)
			counts := b.Counts()
			if e := b.Do(edits, -1, run); e != api.OK {
				t.Errorf("P15.5: Do(%v): %v", edits, e)
			}
			hold(t, "P15.5: nothing done in a run", b, "abcd", 1, "", 1, 0, 0)
			if e := b.Do(edits, 3, run); e != api.OK || b.Counts() != counts {
				t.Errorf("P15.5, P15.10: Do(%v): %v, counts %v, were %v", edits, e, b.Counts(), counts)
			}
			hold(t, "P15.5: nothing done but for the cursor", b, "abcd", 3, "", 1, 0, 0)
			b.Do([]api.Edit{edit(3, 1, "")}, 3, true)
			hold(t, "P15.5: a run behind nothing done", b, "abc", 3, "", 2, 0, 1)
			b.Undo()
			if e := b.Do(edits, 4, run); e != api.OK {
				t.Errorf("P15.5: Do(%v): %v", edits, e)
			}
			hold(t, "P15.5: nothing done ahead of a Redo", b, "abcd", 4, "", 1, 1, 0)
			if e := b.Redo(); e != api.OK {
				t.Errorf("P15.5: Redo behind nothing done: %v", e)
			}
			hold(t, "P15.5: Redo behind nothing done", b, "abc", 3, "", 2, 0, 0)
		}
	}
}

func TestResetWrittenDown(t *testing.T) {
	groups := []call{reset("abc"), setMark('a', 1), do(-1, false, edit(0, 0, "x")), do(-1, false, edit(0, 0, "y")), undo}
	for _, text := range []string{"", "1", "123456", "a\u0301", "\u0301\u0301", "\xff\xcc"} {
		b := made(t, api.Config{Text: 6, Undo: 5}, groups...)
		for _, long := range []string{"1234567", "123456\u0301", strings.Repeat("x", 1000)} {
			refuse(t, "P15.7", b, reset(long), api.ErrFull)
		}
		if e := b.Reset(text); e != api.OK {
			t.Errorf("P15.7: Reset(%q): %v", text, e)
		}
		hold(t, "P15.7: Reset", b, text, len(text), "", 0, 0, 0)
		refuse(t, "P15.7: Undo behind Reset", b, undo, api.ErrNoUndo)
		refuse(t, "P15.7: Redo behind Reset", b, redo, api.ErrNoRedo)
		// The bound and the limit are still there.
		for range 7 {
			b.Do([]api.Edit{edit(0, len(text), "123")}, 0, false)
			b.Do([]api.Edit{edit(0, 3, text)}, 0, false)
		}
		if n, _ := b.Groups(); n != 5 {
			t.Errorf("P15.7: %d groups behind Reset, want 5", n)
		}
		refuse(t, "P15.7: the limit behind Reset", b, do(-1, false, edit(0, 0, "1234567")), api.ErrFull)
	}
}

func TestSwitchWrittenDown(t *testing.T) {
	b := made(t, api.Config{Text: 9, Undo: 9, Store: api.KindGap}, reset("abc"), setMark('b', 2), do(3, true, edit(3, 0, "d")), do(4, true, edit(4, 0, "e")))
	for n, to := range []api.Kind{api.KindRope, api.KindRope, api.KindGap, api.KindGap, api.KindRope} {
		if e := b.Switch(to); e != api.OK || b.Backend() != to {
			t.Errorf("P15.7: Switch(%d): %v, backend %d", to, e, b.Backend())
		}
		hold(t, "P15.7, R9: Switch", b, "abcde", 4, "b2", 1, 0, 2)
		if forced := []int{1, 1, 2, 2, 3}[n]; b.Counts() != (api.Counts{Forced: forced, Edited: 5}) {
			t.Errorf("P15.7: Switch(%d): counts %v", to, b.Counts())
		}
	}
	for _, to := range []api.Kind{math.MinInt, -1, 0, api.KindHybrid, 4, 257, math.MaxInt} {
		refuse(t, "P15.7", b, switchTo(to), api.ErrKind)
	}
	made := b.Do([]api.Edit{edit(5, 0, "f")}, 6, true)
	if hold(t, "P15.7: the run behind switches", b, "abcdef", 6, "b2", 1, 0, 3); made != api.OK {
		t.Error("P15.7: Do behind switches:", made)
	}
}

func TestNilWrittenDown(t *testing.T) {
	var b *buffer.Buffer
	for range 2 {
		if b.Store() != nil || b.Backend() != 0 || b.Counts() != (api.Counts{}) {
			t.Error("P15.11: nil:", b.Store(), b.Backend(), b.Counts())
		}
		hold(t, "P15.11: nil", b, "", 0, "", 0, 0, 0)
		if s, e := b.Slice(0, 0); s != "" || e != api.OK {
			t.Errorf("P15.11: Slice(0, 0) of nil: %q, %v", s, e)
		}
		if at, e := b.Mark('a'); at != 0 || e != api.ErrNoMark {
			t.Error("P15.11: Mark of nil:", at, e)
		}
		for _, c := range []call{
			goTo(0), setMark('a', 0), setMark('@', 0), reset(""), rest,
			do(0, true), do(-1, false), do(0, true, edit(0, 0, "")), do(-1, true, edit(0, 0, ""), edit(0, 0, "")),
		} {
			refuse(t, "P15.11: of nil", b, c, api.OK)
		}
		for _, c := range []call{
			goTo(-1), goTo(1), goTo(math.MaxInt), setMark('a', -1), setMark('z', 1), do(1, false), do(-2, false),
			do(0, true, edit(1, 0, "")), do(0, true, edit(0, 1, "")), do(0, true, edit(-1, 0, "")), do(0, true, edit(1, 0, "x")), do(1, true, edit(0, 0, "")),
		} {
			refuse(t, "P15.11: of nil", b, c, api.ErrRange)
		}
		refuse(t, "P15.11: of nil", b, do(0, false, edit(0, 0, "x")), api.ErrFull)
		refuse(t, "P15.11: of nil", b, reset("x"), api.ErrFull)
		refuse(t, "P15.11: of nil", b, setMark('A', 0), api.ErrNoMark)
		refuse(t, "P15.11: of nil", b, setMark('A', 9), api.ErrNoMark)
		refuse(t, "P15.11: of nil", b, undo, api.ErrNoUndo)
		refuse(t, "P15.11: of nil", b, redo, api.ErrNoRedo)
		for kind := range api.Kind(5) {
			refuse(t, "P15.11: of nil", b, switchTo(kind), api.ErrKind)
		}
	}
}

func TestZeroWrittenDown(t *testing.T) {
	b := &buffer.Buffer{}
	s := b.Store()
	if s == nil || s != b.Store() {
		t.Fatal("P15.11: the zero Buffer's store is nil, or another each time")
	}
	lo, hi := s.Thresholds()
	if s.Kind() != api.KindHybrid || s.Backend() != api.KindGap || b.Backend() != api.KindGap || lo != 0 || hi != 1 || s.Limit() != 0 {
		t.Error("P15.11: the zero Buffer's store:", s.Kind(), s.Backend(), lo, hi, s.Limit())
	}
	hold(t, "P15.11: the zero Buffer", b, "", 0, "", 0, 0, 0)
	refuse(t, "P15.11: of the zero Buffer", b, do(0, false, edit(0, 0, "x")), api.ErrFull)
	if e := b.SetMark('q', 0); e != api.OK {
		t.Error("P15.11: SetMark of the zero Buffer:", e)
	}
	if e := b.Switch(api.KindRope); e != api.OK || b.Backend() != api.KindRope || s.Backend() != api.KindRope {
		t.Error("P15.11: Switch of the zero Buffer:", e, b.Backend())
	}
	hold(t, "P15.11: the zero Buffer", b, "", 0, "q0", 0, 0, 0)
	// The empty text is one by the low threshold, behind a Reset and not ahead of it.
	if e := b.Reset(""); e != api.OK || b.Counts() != (api.Counts{Moves: 1, Forced: 1}) {
		t.Error("P15.11: Reset of the zero Buffer:", e, b.Counts())
	}
	hold(t, "P15.11: the zero Buffer", b, "", 0, "", 0, 0, 0)
}

// TestStoreIsTheOne: what the buffer does is seen in the store that was asked for ahead of it; and where that is changed from outside, calls still end.
func TestStoreIsTheOne(t *testing.T) {
	b := buffer.New(api.Config{Text: 9, Undo: 5, Low: 1, High: 3})
	s := b.Store()
	for n, c := range []call{do(-1, false, edit(0, 0, "abcd")), do(3, false, edit(0, 1, "")), undo, redo, reset("xyz"), switchTo(api.KindGap)} {
		onBuffer(b, c)
		want := []string{"abcd", "bcd", "abcd", "bcd", "xyz", "xyz"}[n]
		if s.Text() != want || s != b.Store() || s.Backend() != b.Backend() || s.Counts() != b.Counts() {
			t.Errorf("P15.2: the store behind %v: %q, want %q", c, s.Text(), want)
		}
	}
	b = made(t, api.Config{Text: 9, Undo: 5}, do(4, false, edit(0, 0, "abcd")), setMark('a', 3), do(2, false, edit(0, 2, "xyzuvw")), do(0, true, edit(6, 0, "1")))
	for _, text := range []string{"", "123456789", "\u0301", "q"} {
		b.Store().Reset(text)
		for _, c := range append(everyCall(0), undo, undo, redo, redo, redo, undo) {
			onBuffer(b, c)
			state(b)
		}
	}
}
