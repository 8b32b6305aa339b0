package screen_test

import (
	"math"
	"runtime"
	"strings"
	"testing"
	"time"
	"unsafe"

	"bodkin/api"
	"bodkin/screen"
)

// TestNil has each call of a nil screen.
func TestNil(t *testing.T) {
	var s *screen.Screen
	for range 2 {
		if s.Width() != 0 || s.Height() != 0 || s.Held() != 0 || s.Full() || s.Cursor() != at(0, 0) || s.Rows() != 0 || s.Clone() != nil {
			t.Error("P22.8: a nil screen answers something")
		}
		for _, n := range []int{math.MinInt, 0, 1, 2, math.MaxInt} {
			if f := s.Frame(n); f.Width != 0 || f.Rows != nil || f.Cursor != at(0, 0) {
				t.Errorf("P22.8: a nil screen has the frame %v", f)
			}
			s.Resize(n)
		}
		for _, f := range []api.Frame{{}, {Width: 1, Rows: rows(nil)}, {Rows: rows(nil)}} {
			if s.Shows(f) {
				t.Errorf("P22.8: a nil screen shows %v", f)
			}
		}
		s.Feed("")
		s.Feed("a\u4e00\x1b[H\x1b[J\n\xe4\x1b[")
	}
}

// TestZero has the zero screen beside one of one cell, with all that may be done to it first.
func TestZero(t *testing.T) {
	wantAs(t, "the zero screen", &screen.Screen{}, newTerminal(1, 1))
	for _, p := range pieces {
		for _, q := range pieces {
			var s screen.Screen
			x := newTerminal(1, 1)
			for _, bytes := range []string{p, q} {
				s.Feed(bytes)
				x.feed(bytes)
				wantAs(t, "the zero screen behind "+p, &s, x)
			}
		}
	}
	var s, c screen.Screen
	x := newTerminal(1, 1)
	s.Resize(3)
	x.resize(3)
	s.Feed("a\u4e00")
	x.feed("a\u4e00")
	wantAs(t, "the zero screen made wider", &s, x)
	wantAs(t, "the clone of the zero screen", c.Clone(), newTerminal(1, 1))
	if f := c.Frame(9); !alike(f, api.Frame{Width: 1, Rows: rows(nil)}) || !c.Shows(f) {
		t.Errorf("P22.8: the zero screen has the frame %v", f)
	}
}

// TestClone goes on with a screen and its clone in two ways: neither is seen in the other.
func TestClone(t *testing.T) {
	next := numbers(8)
	for range 2000 {
		wide, high := 1+next(6), 1+next(4)
		bytes := mixed(next, next(30))
		s, x := screen.New(wide, high), newTerminal(wide, high)
		s.Feed(bytes)
		x.feed(bytes)
		c, y := s.Clone(), x.clone()
		wantAs(t, "the clone of "+name(wide, high, bytes), c, y)
		for range 4 {
			one, other := mixed(next, next(4)), mixed(next, next(4))
			s.Feed(one)
			x.feed(one)
			c.Feed(other)
			y.feed(other)
			if next(4) == 0 {
				to := 1 + next(6)
				c.Resize(to)
				y.resize(to)
			}
			wantAs(t, name(wide, high, bytes)+", cloned, behind "+one, s, x)
			wantAs(t, "the clone of "+name(wide, high, bytes)+" behind "+other, c, y)
		}
	}
}

// TestCloneMarks lays marks behind one cell on a screen and on its clones in turn.
func TestCloneMarks(t *testing.T) {
	s := screen.New(3, 1)
	s.Feed("e\u0301")
	c := s.Clone()
	d := c.Clone()
	for range 3 {
		s.Feed("\u0300")
		c.Feed("\u0302")
	}
	d.Feed("\u0303")
	for i, x := range []struct {
		s    *screen.Screen
		want string
	}{
		{s, "e\u0301\u0300\u0300\u0300"}, {c, "e\u0301\u0302\u0302\u0302"}, {d, "e\u0301\u0303"},
	} {
		if !x.s.Shows(api.Frame{Width: 3, Rows: rows(row(x.want)), Cursor: at(0, 1)}) {
			t.Errorf("P22.8: the clone %d has %v, want %q", i, x.s.Frame(1), x.want)
		}
	}
}

// TestFramesAreNew fills the cells of a frame, their spare room too.
func TestFramesAreNew(t *testing.T) {
	next := numbers(4)
	for range 300 {
		wide, high := 1+next(9), 1+next(5)
		bytes := mixed(next, next(50))
		s, x := screen.New(wide, high), newTerminal(wide, high)
		s.Feed(bytes)
		x.feed(bytes)
		f, other := s.Frame(high), s.Frame(high)
		for i, cells := range f.Rows {
			cells = cells[:cap(cells)]
			for j := range cells {
				cells[j] = api.Cell{Text: "#", Span: 100 + i}
			}
		}
		for i, cells := range f.Rows {
			for _, c := range cells {
				if c.Span != 100+i {
					t.Fatalf("R3: the rows %d and %d of a frame share memory", i, c.Span-100)
				}
			}
		}
		whole := f.Rows[:cap(f.Rows)]
		for i := range whole {
			whole[i] = nil
		}
		if !alike(other, x.frame(high)) {
			t.Fatal("R3: two frames share memory")
		}
		wantAs(t, name(wide, high, bytes)+", whose frame was written over", s, x)
		s.Feed("x\u0301\x1b[H\x1b[J")
		if !alike(other, x.frame(high)) {
			t.Fatal("P22.4: a frame changes with its screen")
		}
	}
}

// TestBytesAreCopies writes over the bytes that were fed.
func TestBytesAreCopies(t *testing.T) {
	for _, p := range pieces {
		for _, q := range pieces {
			text := "a\u0301" + p + q
			room := []byte(text)
			s, x := screen.New(4, 2), newTerminal(4, 2)
			s.Feed(unsafe.String(unsafe.SliceData(room), len(room)))
			x.feed(text)
			if string(room) != text {
				t.Fatalf("R3: Feed changes %q", text)
			}
			for i := range room {
				room[i] = '#'
			}
			wantAs(t, name(4, 2, text)+", whose bytes were written over", s, x)
			s.Feed("\u0301\x80H")
			x.feed("\u0301\x80H")
			wantAs(t, name(4, 2, text)+", gone on with", s, x)
		}
	}
}

// allocated answers how many bytes of memory do asks for.
func allocated(do func()) uint64 {
	var ahead, behind runtime.MemStats
	runtime.ReadMemStats(&ahead)
	do()
	runtime.ReadMemStats(&behind)
	return behind.TotalAlloc - ahead.TotalAlloc
}

// TestGreatest has the greatest screen, blank and with little on it: its cells would take some hundred gigabytes.
func TestGreatest(t *testing.T) {
	const most = api.MostWidth
	var s *screen.Screen
	if n := allocated(func() { s = screen.New(most, most) }); n > 1<<16 {
		t.Errorf("P22.1: a screen of MostWidth by MostWidth takes %d bytes", n)
	}
	n := allocated(func() {
		s.Feed("\x1b[65535;65535H\x1b[J\x1b[K\x1b[H\x1b[J\x1b[K")
		s.Feed("\x1b[65535;65535Hx\u0301\x1b[1;65534H\u4e00\x1b[30000;1Hy")
		c := s.Clone()
		c.Feed("\x1b[H\x1b[J")
		if c.Rows() != 1 || s.Rows() != most {
			t.Errorf("P22.3: %d rows, %d of the clone", s.Rows(), c.Rows())
		}
		for i := range most {
			s.Feed("\x1b[" + digits(i+1) + ";60000Hz")
		}
	})
	if n > 1<<27 {
		t.Errorf("P22.1: a screen of MostWidth by MostWidth takes %d bytes with a thing in each row", n)
	}
	f := s.Frame(1)
	if cells := f.Rows[0]; len(cells) != most || cells[59999] != (api.Cell{Text: "z", Span: 1}) || cells[60000] != blank || cells[most-2] != (api.Cell{Text: "\u4e00", Span: 2}) || cells[most-1] != (api.Cell{}) {
		t.Errorf("P22.4: the first row has %d cells", len(cells))
	}
	s.Feed("\x1b[65535H\n\x1b[1;1H\x1b[K")
	if s.Rows() != most-1 || s.Held() != 0 {
		t.Errorf("P22.3: %d rows", s.Rows())
	}
	s.Resize(60000)
	if s.Rows() != most-1 || s.Width() != 60000 {
		t.Errorf("P22.6: %d rows of %d columns", s.Rows(), s.Width())
	}
	s.Resize(59999)
	if s.Rows() != 29999 || s.Width() != 59999 {
		t.Errorf("P22.6: %d rows of %d columns", s.Rows(), s.Width())
	}
}

// digits answers a number in decimal.
func digits(n int) string {
	if n < 10 {
		return string(rune('0' + n))
	}
	return digits(n/10) + string(rune('0'+n%10))
}

// TestRoom has very many cells that are cleared, or lost at the top: their memory is given back.
func TestRoom(t *testing.T) {
	inUse := func() uint64 {
		var m runtime.MemStats
		runtime.GC()
		runtime.ReadMemStats(&m)
		return m.HeapAlloc
	}
	fill := func(s *screen.Screen) {
		for i := range 20 {
			s.Feed("\x1b[" + digits(i+1) + ";1H" + strings.Repeat("xy\u00e9z", 10000))
		}
	}
	for i, wipe := range []func(*screen.Screen){
		func(s *screen.Screen) { s.Feed("\x1b[H\x1b[J") },
		func(s *screen.Screen) {
			for i := range 20 {
				s.Feed("\x1b[" + digits(i+1) + ";1H\x1b[K")
			}
		},
		func(s *screen.Screen) { s.Feed(strings.Repeat("\n", 20)) },
		func(s *screen.Screen) { s.Feed("\x1b[20;1H" + strings.Repeat("\nx", 20)) },
	} {
		s := screen.New(40000, 20)
		ahead := inUse()
		fill(s)
		full := inUse()
		wipe(s)
		if left := inUse(); full < ahead+10<<20 || left > ahead+1<<20 {
			t.Errorf("P22.1: cleared in the way %d a screen keeps its memory: %d bytes ahead, %d full, %d cleared", i, ahead, full, left)
		}
		runtime.KeepAlive(s)
	}
}

// TestTime has very many bytes that come one by one: a call for each, none of which may look at all that came before.
func TestTime(t *testing.T) {
	const n = 300000
	begin := time.Now()
	bytewise := func(s *screen.Screen, bytes string) {
		for i := range len(bytes) {
			s.Feed(bytes[i : i+1])
			s.Held()
			s.Cursor()
		}
	}
	s := screen.New(5, 3)
	marks := strings.Repeat("\u0301", n)
	bytewise(s, "e"+marks)
	if !s.Shows(api.Frame{Width: 5, Rows: rows(row("e" + marks)), Cursor: at(0, 1)}) {
		t.Error("P22.2: many marks are not all laid")
	}
	bytewise(s, "\x1b["+strings.Repeat("9", n))
	bytewise(s, ";"+strings.Repeat("0", n)+"2H")
	if s.Cursor() != at(2, 1) {
		t.Errorf("P22.2: behind long numbers the cursor is %v", s.Cursor())
	}
	wides, many := strings.Repeat("\u4e00", api.MostWidth/2), strings.Repeat("x", api.MostWidth)
	s = screen.New(api.MostWidth, api.MostWidth)
	for _, bytes := range []string{wides, many, wides, strings.Repeat(" ", api.MostWidth), many, strings.Repeat("\x1b[K", n)} {
		s.Feed("\x1b[2H" + bytes)
	}
	s.Feed("\x1b[2;65535H" + strings.Repeat("x\x08\x08", api.MostWidth))
	s.Feed("\x1b[65535Hx" + strings.Repeat("\nx", n))
	if s.Rows() != api.MostWidth {
		t.Errorf("P22.3: %d rows", s.Rows())
	}
	for range 20000 {
		s.Feed("\x1b[1;65535Hx\x1b[1;1H\x1b[K")
	}
	if spent := time.Since(begin); spent > 30*time.Second {
		t.Errorf("many bytes take %v", spent)
	}
}
