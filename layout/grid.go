package layout

import (
	"bodkin/api"
	"bodkin/cluster"
)

// counted answers the width as it counts.
func counted(width int) int {
	return min(max(width, 1), api.MostWidth)
}

// step answers where a cluster of so many cells is laid that comes to the pen, and the pen behind it.
func step(pen api.Place, cells, width int) (at, next api.Place) {
	if cells == 0 {
		return pen, below(pen)
	}
	// What has two cells never fits into one column, and is shown there by one.
	cells = min(cells, width)
	if pen.Col+cells > width {
		pen = below(pen)
	}
	next = api.Place{Row: pen.Row, Col: pen.Col + cells}
	if next.Col == width {
		next = below(next)
	}
	return pen, next
}

// below answers the beginning of the row behind that of the pen.
func below(pen api.Place) api.Place {
	return api.Place{Row: pen.Row + 1}
}

// behind answers the pen behind the clusters of s.
func behind(pen api.Place, s string, width int) api.Place {
	for c := range cluster.Walk(s) {
		_, pen = step(pen, c.Cells, width)
	}
	return pen
}

// grid is what has been laid so far. It always has the pen's row, and each row ends where the last thing in it was laid.
type grid struct {
	width int
	pen   api.Place
	rows  [][]api.Cell
}

// newGrid answers a grid on which nothing is laid.
func newGrid(width int) *grid {
	return &grid{width: counted(width), rows: make([][]api.Cell, 1)}
}

// lay lays the cluster c of s.
func (g *grid) lay(s string, c api.Cluster) {
	at, next := step(g.pen, c.Cells, g.width)
	g.reach(at.Row)
	g.rows[at.Row] = g.put(g.rows[at.Row], c, cluster.Drawn(s[c.At:c.To]))
	g.reach(next.Row)
	g.pen = next
}

// reach lets the grid have that row.
func (g *grid) reach(row int) {
	for len(g.rows) <= row {
		g.rows = append(g.rows, nil)
	}
}

// put answers the row with the cells of the cluster c behind it.
func (g *grid) put(row []api.Cell, c api.Cluster, drawn string) []api.Cell {
	switch {
	case c.Cells == 0:
		return row
	case c.Cells == 1:
		return append(row, api.Cell{Text: drawn, Span: 1})
	case g.width == 1:
		return append(row, api.Cell{Text: "\uFFFD", Span: 1})
	case c.Class == api.ClassWide:
		return append(row, api.Cell{Text: drawn, Span: 2}, api.Cell{})
	}
	// A control of two cells: ^ and another character, one byte each.
	return append(row, api.Cell{Text: drawn[:1], Span: 1}, api.Cell{Text: drawn[1:], Span: 1})
}

// trim leaves out the blank cells at the rows' ends.
func (g *grid) trim() {
	blank := api.Cell{Text: " ", Span: 1}
	for i, row := range g.rows {
		for len(row) > 0 && row[len(row)-1] == blank {
			row = row[:len(row)-1]
		}
		g.rows[i] = row
	}
}
