package paint_test

import (
	"strconv"
	"strings"

	"bodkin/api"
	"bodkin/cluster"
	"bodkin/unit"
)

// blank is the chapter's blank.
var blank = api.Cell{Text: " ", Span: 1}

// takes answers how many cells a Text takes that is drawn as itself; 0, if it isn't.
func takes(text string) int {
	list := cluster.List(text)
	if len(list) != 1 {
		return 0
	}
	for _, u := range unit.Units(text) {
		if u.Char < 0 {
			return 0
		}
	}
	switch list[0].Class {
	case api.ClassPlain:
		return 1
	case api.ClassWide:
		return 2
	}
	return 0
}

// isLeft answers whether the cell i of the row is a wide thing's left half, with its right one behind it.
func isLeft(row []api.Cell, i int) bool {
	return i >= 0 && i+1 < len(row) && row[i].Span == 2 && takes(row[i].Text) == 2 && row[i+1].Span == 0 && row[i+1].Text == ""
}

// isFit answers whether f is fit, by the chapter's list.
func isFit(f api.Frame) bool {
	if f.Width < 1 || f.Width > 65535 || len(f.Rows) < 1 {
		return false
	}
	for _, row := range f.Rows {
		if len(row) > f.Width {
			return false
		}
		if len(row) > 0 && row[len(row)-1].Text == " " && row[len(row)-1].Span == 1 {
			return false
		}
		for i, c := range row {
			one := c.Span == 1 && takes(c.Text) == 1
			if !one && !isLeft(row, i) && !isLeft(row, i-1) {
				return false
			}
		}
	}
	return f.Cursor.Row >= 0 && f.Cursor.Row <= len(f.Rows)-1 && f.Cursor.Col >= 0 && f.Cursor.Col <= f.Width-1
}

// texts answers the cells' Texts, one behind the other.
func texts(cells []api.Cell) string {
	var parts []string
	for _, c := range cells {
		parts = append(parts, c.Text)
	}
	return strings.Join(parts, "")
}

// to answers the sequence that goes to a row and a column, both from 0 on.
func to(row, col int) string {
	return "\x1b[" + strconv.Itoa(row+1) + ";" + strconv.Itoa(col+1) + "H"
}

// fully answers what paints f whole.
func fully(f api.Frame) string {
	if !isFit(f) {
		return ""
	}
	parts := []string{"\x1b[m", "\x1b[H", "\x1b[J"}
	for i, row := range f.Rows {
		if len(row) != 0 {
			parts = append(parts, to(i, 0), texts(row))
		}
	}
	return strings.Join(append(parts, to(f.Cursor.Row, f.Cursor.Col)), "")
}

// alikeRows answers whether the rows have the same cells.
func alikeRows(a, b []api.Cell) bool {
	if len(a) != len(b) {
		return false
	}
	for i := range a {
		if a[i].Text != b[i].Text || a[i].Span != b[i].Span {
			return false
		}
	}
	return true
}

// nextly answers what paints f where shown is shown.
func nextly(shown, f api.Frame) string {
	if !isFit(f) {
		return ""
	}
	if !isFit(shown) || shown.Width != f.Width {
		return fully(f)
	}
	var parts []string
	for i, row := range f.Rows {
		if i >= len(shown.Rows) || !alikeRows(row, shown.Rows[i]) {
			parts = append(parts, to(i, 0), texts(row))
			if len(row) != f.Width {
				parts = append(parts, "\x1b[K")
			}
		}
	}
	if len(shown.Rows) > len(f.Rows) {
		parts = append(parts, to(len(f.Rows), 0), "\x1b[J")
	}
	return strings.Join(append(parts, to(f.Cursor.Row, f.Cursor.Col)), "")
}
