package layout_test

import (
	"bodkin/api"
	"bodkin/cluster"
)

// sheet is a grid on which whatever was laid stands by its place.
type sheet struct {
	width, row, col int
	cells           map[api.Place]api.Cell
}

// blank is the chapter's blank cell.
var blank = api.Cell{Text: " ", Span: 1}

// newSheet answers a sheet on which nothing is laid.
func newSheet(width int) *sheet {
	if width < 1 {
		width = 1
	}
	if width > 65535 {
		width = 65535
	}
	return &sheet{width: width, cells: map[api.Place]api.Cell{}}
}

// feed brings the pen to the next row.
func (s *sheet) feed() {
	s.row, s.col = s.row+1, 0
}

// set lays one cell.
func (s *sheet) set(text string, span int) {
	s.cells[api.Place{Row: s.row, Col: s.col}] = api.Cell{Text: text, Span: span}
	s.col++
	if s.col == s.width {
		s.feed()
	}
}

// lay lays what is one cluster by itself, line by line as the chapter lists it.
func (s *sheet) lay(own string) {
	c, drawn := cluster.List(own)[0], cluster.Drawn(own)
	if c.Cells == 0 {
		s.feed()
		return
	}
	if c.Cells == 1 {
		s.set(drawn, 1)
		return
	}
	if s.width == 1 {
		s.set("\uFFFD", 1)
		return
	}
	if s.col == s.width-1 {
		s.feed()
	}
	if c.Class == api.ClassWide {
		s.set(drawn, 2)
		s.set("", 0)
		return
	}
	for _, char := range drawn {
		s.set(string(char), 1)
	}
}

// layAll lays those clusters of text that end at upTo or ahead of it.
func (s *sheet) layAll(text string, upTo int) {
	for _, c := range cluster.List(text) {
		if c.To <= upTo {
			s.lay(text[c.At:c.To])
		}
	}
}

// rows answers the rows up to that of the pen, without the blanks at their ends.
func (s *sheet) rows() [][]api.Cell {
	list := make([][]api.Cell, s.row+1)
	ends := make([]int, s.row+1)
	for at, c := range s.cells {
		if c != blank {
			ends[at.Row] = max(ends[at.Row], at.Col+1)
		}
	}
	for row := range list {
		for col := range ends[row] {
			c, ok := s.cells[api.Place{Row: row, Col: col}]
			if !ok {
				c = blank
			}
			list[row] = append(list[row], c)
		}
	}
	return list
}

// placed answers the cursor's place.
func placed(prompt, text string, cursor, width int) api.Place {
	if cursor < 0 {
		cursor = 0
	}
	if cursor > len(text) {
		cursor = len(text)
	}
	s := newSheet(width)
	s.layAll(prompt, len(prompt))
	s.layAll(text, cursor)
	return api.Place{Row: s.row, Col: s.col}
}

// plainly answers the frame that the chapter's words ask for.
func plainly(prompt, text string, cursor, width int) api.Frame {
	s := newSheet(width)
	s.layAll(prompt, len(prompt))
	s.layAll(text, len(text))
	return api.Frame{Width: s.width, Rows: s.rows(), Cursor: placed(prompt, text, cursor, width)}
}

// alike answers whether the frames are the same, cell by cell.
func alike(a, b api.Frame) bool {
	if a.Width != b.Width || a.Cursor.Row != b.Cursor.Row || a.Cursor.Col != b.Cursor.Col || len(a.Rows) != len(b.Rows) {
		return false
	}
	for i := range a.Rows {
		if len(a.Rows[i]) != len(b.Rows[i]) {
			return false
		}
		for j := range a.Rows[i] {
			if a.Rows[i][j].Text != b.Rows[i][j].Text || a.Rows[i][j].Span != b.Rows[i][j].Span {
				return false
			}
		}
	}
	return true
}
