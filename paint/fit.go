package paint

import (
	"bodkin/api"
	"bodkin/cluster"
	"bodkin/unit"
	"bodkin/width"
)

// within answers whether n is from 0 to bound less one.
func within(n, bound int) bool {
	return 0 <= n && n < bound
}

// fitRow answers whether a fit frame of so many columns may have the row.
func fitRow(row []api.Cell, columns int) bool {
	if len(row) > columns {
		return false
	}
	blank := api.Cell{Text: " ", Span: 1}
	if len(row) > 0 && row[len(row)-1] == blank {
		return false
	}
	for len(row) > 0 {
		n := fitCells(row)
		if n == 0 {
			return false
		}
		row = row[n:]
	}
	return true
}

// fitCells answers how many cells the cluster takes with which the row begins; 0, if the cells there are none of a fit frame.
func fitCells(row []api.Cell) int {
	first := row[0]
	switch {
	case first.Span == 1 && is(first.Text, api.ClassPlain):
		return 1
	case first.Span == 2 && is(first.Text, api.ClassWide) && len(row) > 1 && row[1] == api.Cell{}:
		return 2
	}
	return 0
}

// is answers whether s is one cluster of class k, plain or wide.
func is(s string, k api.Class) bool {
	first, ok := unit.At(s, 0)
	// Behind a first unit of such a class a cluster has marks alone, so no bad byte is in it.
	return ok && width.Class(first.Char) == k && cluster.Next(s, 0) == len(s)
}
