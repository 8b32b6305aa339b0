package screen

import (
	"slices"
	"strings"

	"bodkin/api"
)

// written is the cell that was written last, as long as a mark that comes next is laid behind its Text; else its Span is 0.
type written struct {
	at   api.Place
	cell api.Cell
	// text gathers the Text once marks come, so that each of very many needn't copy it.
	text *strings.Builder
}

// control does what a byte below 0x20, or 0x7F, says.
func (s *Screen) control(b byte) {
	switch b {
	case 0x08:
		s.cursor.Col = max(s.cursor.Col-1, 0)
	case 0x0A:
		s.goDown()
	case 0x0D:
		s.cursor.Col = 0
	}
	s.full = false
	s.last = written{}
}

// goDown brings the cursor to the next row.
func (s *Screen) goDown() {
	if s.cursor.Row < s.corner.Row {
		s.cursor.Row++
		return
	}
	if len(s.rows) > 0 {
		// The room of the lost row isn't to be kept.
		s.rows[0] = row{}
		s.rows = s.rows[1:]
	}
}

// writeWide writes a wide text, or in one column what stands for it.
func (s *Screen) writeWide(text string) {
	if s.corner.Col == 0 {
		s.write(replacement, 1)
		return
	}
	s.write(text, 2)
}

// write writes the text at the cursor.
func (s *Screen) write(text string, span int) {
	if s.full || span == 2 && s.cursor.Col == s.corner.Col {
		s.goDown()
		s.cursor.Col, s.full = 0, false
	}
	s.last = written{at: s.cursor, cell: api.Cell{Text: text, Span: span}}
	s.put()
	s.cursor.Col += span
	if s.cursor.Col > s.corner.Col {
		s.cursor.Col, s.full = s.corner.Col, true
	}
}

// mark lays a mark behind the Text that was written last, if there is one.
func (s *Screen) mark(text string) {
	w := &s.last
	if w.cell.Span == 0 {
		return
	}
	if w.text == nil {
		w.text = new(strings.Builder)
		w.text.WriteString(w.cell.Text)
	}
	w.text.WriteString(text)
	w.cell.Text = w.text.String()
	s.put()
}

// put lets the last cell that was written stand in its place.
func (s *Screen) put() {
	at := s.last.at
	if more := at.Row + 1 - len(s.rows); more > 0 {
		s.rows = append(s.rows, make([]row, more)...)
	}
	s.rows[at.Row].put(at.Col, s.last.cell)
}

// carryOut does what the sequence q says that has that end.
func (s *Screen) carryOut(q sequence, end byte) {
	if end != 'J' && end != 'K' && end != 'm' {
		s.full = false
	}
	switch {
	case q.odd:
	case end == 'H':
		s.cursor = api.Place{Row: numbered(q.numbers[0], s.Height()), Col: numbered(q.numbers[1], s.Width())}
	case q.which > 0 || q.numbers[0] > 0:
		// J and K are asked to clear something else.
	case end == 'J':
		s.clearRight()
		s.clearBelow()
	case end == 'K':
		s.clearRight()
	}
}

// numbered answers which of so many rows or columns, from 0 on, has the number n, from 1 on.
func numbered(n, count int) int {
	return min(max(n, 1), count) - 1
}

// clearRight clears the cursor's row from the cursor on.
func (s *Screen) clearRight() {
	if i := s.cursor.Row; i < len(s.rows) {
		s.rows[i].cut(s.cursor.Col)
	}
}

// clearBelow clears the rows below the cursor's.
func (s *Screen) clearBelow() {
	if next := s.cursor.Row + 1; next < len(s.rows) {
		s.rows = slices.Delete(s.rows, next, len(s.rows))
	}
}
