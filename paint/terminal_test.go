package paint_test

import (
	"strconv"
	"strings"
	"testing"

	"bodkin/api"
	"bodkin/unit"
	"bodkin/width"
)

// terminal is a terminal as layer 22's chapter describes it, made as plainly as can be.
type terminal struct {
	wide, high int
	rows       [][]api.Cell
	row, col   int
	full       bool
	// last is the cell that a mark would be laid upon, if there is one.
	last *api.Cell
	held string
}

// newTerminal answers a blank terminal.
func newTerminal(wide, high int) *terminal {
	t := &terminal{wide: wide, high: high}
	for range high {
		t.rows = append(t.rows, t.blankRow())
	}
	return t
}

// blankRow answers a row of blank cells.
func (t *terminal) blankRow() []api.Cell {
	var list []api.Cell
	for range t.wide {
		list = append(list, blank)
	}
	return list
}

// feed does what the bytes say, behind all that came before.
func (t *terminal) feed(s string) {
	s = t.held + s
	for t.held = ""; s != ""; {
		n := t.one(s)
		if n == 0 {
			t.held = s
			return
		}
		s = s[n:]
	}
}

// one does the first thing of s, and answers how many bytes it has; 0, if it isn't whole.
func (t *terminal) one(s string) int {
	switch c := s[0]; {
	case c == 0x1b:
		t.last = nil
		return t.sequence(s)
	case c < 0x20 || c == 0x7f:
		t.last, t.full = nil, false
		switch c {
		case 0x08:
			t.col = max(t.col-1, 0)
		case 0x0a:
			t.down()
		case 0x0d:
			t.col = 0
		}
		return 1
	case unit.Begun(s):
		return 0
	}
	u, _ := unit.At(s, 0)
	t.unit(s[:u.Size], u.Char)
	return u.Size
}

// unit does what a unit from 0x20 on says.
func (t *terminal) unit(own string, c rune) {
	switch width.Class(c) {
	case api.ClassControl:
		t.last, t.full = nil, false
	case api.ClassMark:
		if t.last != nil {
			t.last.Text += own
		}
	case api.ClassBad:
		t.write("\uFFFD", 1)
	case api.ClassWide:
		if t.wide == 1 {
			t.write("\uFFFD", 1)
			return
		}
		t.write(own, 2)
	default:
		t.write(own, 1)
	}
}

// down goes down.
func (t *terminal) down() {
	if t.row < t.high-1 {
		t.row++
		return
	}
	t.rows = append(t.rows[1:], t.blankRow())
}

// clear makes a cell blank, and the other half of a wide one.
func (t *terminal) clear(row, col int) {
	cells := t.rows[row]
	switch cells[col].Span {
	case 2:
		cells[col+1] = blank
	case 0:
		cells[col-1] = blank
	}
	cells[col] = blank
}

// write writes a text with that span.
func (t *terminal) write(text string, span int) {
	if t.full || span == 2 && t.col == t.wide-1 {
		t.down()
		t.col, t.full = 0, false
	}
	for n := range span {
		t.clear(t.row, t.col+n)
	}
	t.rows[t.row][t.col] = api.Cell{Text: text, Span: span}
	t.last = &t.rows[t.row][t.col]
	if span == 2 {
		t.rows[t.row][t.col+1] = api.Cell{}
	}
	t.col += span
	if t.col == t.wide {
		t.col, t.full = t.wide-1, true
	}
}

// sequence does the sequence with which s begins, and answers how many bytes it has; 0, if it isn't whole.
func (t *terminal) sequence(s string) int {
	switch {
	case len(s) == 1:
		return 0
	case s[1] == 0x1b:
		return 1
	case s[1] != '[':
		return 2
	}
	for i := 2; i < len(s); i++ {
		switch c := s[i]; {
		case 0x40 <= c && c <= 0x7e:
			t.carryOut(s[2:i], c)
			return i + 1
		case c < 0x20 || c > 0x3f:
			return i
		}
	}
	return 0
}

// number answers the number that the digits write, and whether there are digits alone.
func number(digits string) (int, bool) {
	for _, c := range []byte(digits) {
		if c < '0' || c > '9' {
			return 0, false
		}
	}
	if digits == "" {
		return 0, true
	}
	n, err := strconv.Atoi(digits)
	if err != nil {
		n = api.MostBytes
	}
	return n, true
}

// carryOut does what a whole sequence says.
func (t *terminal) carryOut(inside string, end byte) {
	if end != 'J' && end != 'K' && end != 'm' {
		t.full = false
	}
	first, second, two := strings.Cut(inside, ";")
	r, ok := number(first)
	c, fine := number(second)
	if !ok || !fine {
		return
	}
	switch {
	case end == 'H':
		t.row = min(max(r, 1), t.high) - 1
		t.col = min(max(c, 1), t.wide) - 1
	case two || r != 0:
	case end == 'J':
		t.clearRight()
		for i := t.row + 1; i < t.high; i++ {
			t.rows[i] = t.blankRow()
		}
	case end == 'K':
		t.clearRight()
	}
}

// clearRight clears the cursor's row from the cursor on.
func (t *terminal) clearRight() {
	for i := t.col; i < t.wide; i++ {
		t.clear(t.row, i)
	}
}

// shown answers a row without the blanks at its end.
func (t *terminal) shown(row int) []api.Cell {
	cells := t.rows[row]
	for len(cells) > 0 && cells[len(cells)-1] == blank {
		cells = cells[:len(cells)-1]
	}
	return cells
}

// shows answers whether the terminal shows f.
func (t *terminal) shows(f api.Frame) bool {
	if f.Width != t.wide || len(f.Rows) < 1 || len(f.Rows) > t.high {
		return false
	}
	for i := range t.rows {
		var want []api.Cell
		if i < len(f.Rows) {
			want = f.Rows[i]
		}
		if !alikeRows(t.shown(i), want) {
			return false
		}
	}
	return f.Cursor.Row == t.row && f.Cursor.Col == t.col
}

// TestTerminal holds the terminal itself against examples of layer 22's chapter, whole and byte by byte.
func TestTerminal(t *testing.T) {
	for _, x := range []struct {
		bytes    string
		rows     [2][]api.Cell
		row, col int
		full     bool
		held     int
	}{
		{"abc", [2][]api.Cell{row("a", "b", "c"), nil}, 0, 2, true, 0},
		{"abcd", [2][]api.Cell{row("a", "b", "c"), row("d")}, 1, 1, false, 0},
		{"abc\rX", [2][]api.Cell{row("X", "b", "c"), nil}, 0, 1, false, 0},
		{"ab\u4e00", [2][]api.Cell{row("a", "b"), wide("\u4e00")}, 1, 2, false, 0},
		{"a\u4e00", [2][]api.Cell{join(row("a"), wide("\u4e00")), nil}, 0, 2, true, 0},
		{"a\u4e00\x08x", [2][]api.Cell{row("a", "x"), nil}, 0, 2, false, 0},
		{"abcdefg", [2][]api.Cell{row("d", "e", "f"), row("g")}, 1, 1, false, 0},
		{"e\u0301", [2][]api.Cell{row("e\u0301"), nil}, 0, 1, false, 0},
		{"e\r\u0301", [2][]api.Cell{row("e"), nil}, 0, 0, false, 0},
		{"a\x1b[2;9Hb", [2][]api.Cell{row("a"), row(" ", " ", "b")}, 1, 2, true, 0},
		{"abc\x1b[Kd", [2][]api.Cell{row("a", "b"), row("d")}, 1, 1, false, 0},
		{"\x1b[1", [2][]api.Cell{nil, nil}, 0, 0, false, 3},
		{"\x1b[1m", [2][]api.Cell{nil, nil}, 0, 0, false, 0},
		{"\x1b[1\x1b[2;2Hx", [2][]api.Cell{nil, row(" ", "x")}, 1, 2, false, 0},
		{"\xe4\xb8", [2][]api.Cell{nil, nil}, 0, 0, false, 2},
		{"\xe4\xb8a", [2][]api.Cell{row("\uFFFD", "\uFFFD", "a"), nil}, 0, 2, true, 0},
		{"\x1bcx", [2][]api.Cell{row("x"), nil}, 0, 1, false, 0},
	} {
		whole, pieces := newTerminal(3, 2), newTerminal(3, 2)
		whole.feed(x.bytes)
		for i := range len(x.bytes) {
			pieces.feed(x.bytes[i : i+1])
		}
		for _, s := range []*terminal{whole, pieces} {
			if !s.shows(frame(3, x.row, x.col, x.rows[:]...)) || s.full != x.full || len(s.held) != x.held {
				t.Errorf("behind %q the terminal shows %v, the cursor %d, %d, FULL %v, %q held", x.bytes, s.rows, s.row, s.col, s.full, s.held)
			}
		}
	}
}
