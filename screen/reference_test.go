package screen_test

import (
	"slices"
	"strconv"
	"strings"
	"testing"

	"bodkin/api"
	"bodkin/screen"
	"bodkin/unit"
	"bodkin/width"
)

// terminal is a terminal as the chapter describes it, made as plainly as can be: all its cells are there, and bytes that are held back are read anew with those that come behind them.
type terminal struct {
	wide, high int
	rows       [][]api.Cell
	row, col   int
	full       bool
	// marked is the place of the cell that a mark would be laid upon, if there is one.
	marked api.Place
	marks  bool
	held   string
}

// blank is the chapter's blank cell.
var blank = api.Cell{Text: " ", Span: 1}

// newTerminal answers a blank terminal.
func newTerminal(wide, high int) *terminal {
	t := &terminal{wide: wide, high: high}
	for range high {
		t.rows = append(t.rows, blanks(wide))
	}
	return t
}

// blanks answers a row of blank cells.
func blanks(n int) []api.Cell {
	var list []api.Cell
	for range n {
		list = append(list, blank)
	}
	return list
}

// feed does what the bytes say, behind all that came before.
func (t *terminal) feed(s string) {
	s = t.held + s
	for t.held = ""; s != ""; {
		n := t.one(s)
		if n == 0 {
			t.held = s
			return
		}
		s = s[n:]
	}
}

// one does the first thing of s, and answers how many bytes it has; 0, if it isn't whole.
func (t *terminal) one(s string) int {
	switch c := s[0]; {
	case c == 0x1b:
		t.marks = false
		return t.sequence(s)
	case c < 0x20 || c == 0x7f:
		t.marks, t.full = false, false
		switch c {
		case 0x08:
			t.col = max(t.col-1, 0)
		case 0x0a:
			t.down()
		case 0x0d:
			t.col = 0
		}
		return 1
	case unit.Begun(s):
		return 0
	}
	u, _ := unit.At(s, 0)
	t.unit(s[:u.Size], u.Char)
	return u.Size
}

// unit does what a unit from 0x20 on says.
func (t *terminal) unit(own string, c rune) {
	switch width.Class(c) {
	case api.ClassControl:
		t.marks, t.full = false, false
	case api.ClassMark:
		if t.marks {
			t.rows[t.marked.Row][t.marked.Col].Text += own
		}
	case api.ClassBad:
		t.write("\uFFFD", 1)
	case api.ClassWide:
		if t.wide == 1 {
			t.write("\uFFFD", 1)
			return
		}
		t.write(own, 2)
	default:
		t.write(own, 1)
	}
}

// down goes down.
func (t *terminal) down() {
	if t.row < t.high-1 {
		t.row++
		return
	}
	t.rows = append(t.rows[1:], blanks(t.wide))
}

// clear makes a cell blank, and the other half of a wide one.
func (t *terminal) clear(row, col int) {
	cells := t.rows[row]
	switch cells[col].Span {
	case 2:
		cells[col+1] = blank
	case 0:
		cells[col-1] = blank
	}
	cells[col] = blank
}

// write writes a text with that span.
func (t *terminal) write(text string, span int) {
	if t.full || span == 2 && t.col == t.wide-1 {
		t.down()
		t.col, t.full = 0, false
	}
	for n := range span {
		t.clear(t.row, t.col+n)
	}
	t.rows[t.row][t.col] = api.Cell{Text: text, Span: span}
	t.marked, t.marks = api.Place{Row: t.row, Col: t.col}, true
	if span == 2 {
		t.rows[t.row][t.col+1] = api.Cell{}
	}
	t.col += span
	if t.col == t.wide {
		t.col, t.full = t.wide-1, true
	}
}

// sequence does the sequence with which s begins, and answers how many bytes it has; 0, if it isn't whole.
func (t *terminal) sequence(s string) int {
	switch {
	case len(s) == 1:
		return 0
	case s[1] == 0x1b:
		return 1
	case s[1] != '[':
		return 2
	}
	for i := 2; i < len(s); i++ {
		switch c := s[i]; {
		case 0x40 <= c && c <= 0x7e:
			t.carryOut(s[2:i], c)
			return i + 1
		case c < 0x20 || c > 0x3f:
			return i
		}
	}
	return 0
}

// number answers the number that the digits write, and whether there are digits alone.
func number(digits string) (int, bool) {
	for _, c := range []byte(digits) {
		if c < '0' || c > '9' {
			return 0, false
		}
	}
	if digits == "" {
		return 0, true
	}
	n, err := strconv.Atoi(digits)
	if err != nil {
		n = api.MostBytes
	}
	return n, true
}

// carryOut does what a whole sequence says.
func (t *terminal) carryOut(inside string, end byte) {
	if end != 'J' && end != 'K' && end != 'm' {
		t.full = false
	}
	first, second, two := strings.Cut(inside, ";")
	r, ok := number(first)
	c, fine := number(second)
	if !ok || !fine {
		return
	}
	switch {
	case end == 'H':
		t.row = min(max(r, 1), t.high) - 1
		t.col = min(max(c, 1), t.wide) - 1
	case two || r != 0:
	case end == 'J':
		t.clearRight()
		for i := t.row + 1; i < t.high; i++ {
			t.rows[i] = blanks(t.wide)
		}
	case end == 'K':
		t.clearRight()
	}
}

// clearRight clears the cursor's row from the cursor on.
func (t *terminal) clearRight() {
	for i := t.col; i < t.wide; i++ {
		t.clear(t.row, i)
	}
}

// resize makes the terminal so many columns wide.
func (t *terminal) resize(wide int) {
	for i, cells := range t.rows {
		for col := wide; col < t.wide; col++ {
			t.clear(i, col)
		}
		t.rows[i] = append(cells, blanks(max(wide-t.wide, 0))...)[:wide]
	}
	t.wide = wide
	t.col = min(t.col, wide-1)
	t.full, t.marks = false, false
}

// clone answers a terminal of its own that is the same.
func (t *terminal) clone() *terminal {
	c := *t
	c.rows = nil
	for _, cells := range t.rows {
		c.rows = append(c.rows, slices.Clone(cells))
	}
	return &c
}

// frame answers the first rows without the blanks at their ends, and the cursor.
func (t *terminal) frame(rows int) api.Frame {
	f := api.Frame{Width: t.wide, Cursor: api.Place{Row: t.row, Col: t.col}}
	for i, cells := range t.rows {
		if i > 0 && i >= rows {
			break
		}
		for len(cells) > 0 && cells[len(cells)-1] == blank {
			cells = cells[:len(cells)-1]
		}
		f.Rows = append(f.Rows, slices.Clone(cells))
	}
	return f
}

// used answers how many rows there are up to the cursor's and the last one that isn't blank.
func (t *terminal) used() int {
	n := 1
	for i, cells := range t.frame(t.high).Rows {
		if i == t.row || len(cells) > 0 {
			n = i + 1
		}
	}
	return n
}

// alike answers whether the frames are the same in all.
func alike(a, b api.Frame) bool {
	return a.Width == b.Width && a.Cursor == b.Cursor && slices.EqualFunc(a.Rows, b.Rows, slices.Equal)
}

// wantAs asks for all that is seen of s to be as of x.
func wantAs(t *testing.T, name string, s *screen.Screen, x *terminal) {
	t.Helper()
	want := x.frame(x.high)
	if s.Width() != x.wide || s.Height() != x.high {
		t.Fatalf("P22.1: %s: %d by %d, want %d by %d", name, s.Width(), s.Height(), x.wide, x.high)
	}
	if s.Held() != len(x.held) {
		t.Fatalf("P22.2: %s: %d bytes are held, want %d", name, s.Held(), len(x.held))
	}
	if s.Cursor() != want.Cursor || s.Full() != x.full || s.Rows() != x.used() {
		t.Fatalf("P22.3: %s: the cursor %v, FULL %v, %d rows, want %v, %v, %d", name, s.Cursor(), s.Full(), s.Rows(), want.Cursor, x.full, x.used())
	}
	if got := s.Frame(x.high); !alike(got, want) {
		t.Fatalf("P22.2: %s: %v, want %v", name, got, want)
	}
	if !s.Shows(want) || !s.Shows(x.frame(x.used())) || s.Shows(x.frame(x.used()-1)) != (x.used() == 1) {
		t.Fatalf("P22.5: %s: what is shown is not %v", name, want)
	}
}
