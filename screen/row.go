package screen

import (
	"maps"

	"bodkin/api"
)

// row has what stands in a row of cells; the zero row is blank.
type row struct {
	// things has each thing at the column of its first cell, but no blank. A wide one's halves are one thing: with either it loses both.
	things map[int]api.Cell
	// end is a column from which on no thing has a cell.
	end int
}

// put lets c stand from the column col on, and nothing of what stood in its cells.
func (r *row) put(col int, c api.Cell) {
	r.split(col)
	for n := range c.Span {
		delete(r.things, col+n)
	}
	if c == blank() {
		return
	}
	if r.things == nil {
		r.things = map[int]api.Cell{}
	}
	r.things[col] = c
	r.end = max(r.end, col+c.Span)
}

// cut clears all cells from the column col on.
func (r *row) cut(col int) {
	r.split(col)
	// Few things may stand in many columns, and many things ahead of few columns: the lesser number is gone through.
	if len(r.things) < r.end-col {
		maps.DeleteFunc(r.things, func(at int, _ api.Cell) bool { return at >= col })
	} else {
		for at := col; at < r.end; at++ {
			delete(r.things, at)
		}
	}
	r.end = min(r.end, col)
	if r.empty() {
		// A map keeps the room of what is deleted from it.
		*r = row{}
	}
}

// split clears a wide thing whose halves stand on either side of the column's left edge.
func (r *row) split(col int) {
	if r.things[col-1].Span == 2 {
		delete(r.things, col-1)
	}
}

// empty answers whether nothing stands in the row.
func (r *row) empty() bool {
	return len(r.things) == 0
}

// cells answers the row's cells without the blank ones at its end.
func (r *row) cells() []api.Cell {
	var list []api.Cell
	for col := range r.end {
		c, ok := r.things[col]
		if !ok {
			continue
		}
		for len(list) < col {
			list = append(list, blank())
		}
		list = append(list, c)
		if c.Span == 2 {
			list = append(list, api.Cell{})
		}
	}
	return list
}

// clone answers a row of its own that is the same.
func (r *row) clone() row {
	return row{things: maps.Clone(r.things), end: r.end}
}

// blank answers a blank cell.
func blank() api.Cell {
	return api.Cell{Text: " ", Span: 1}
}
