package move_test

import (
	"slices"

	"bodkin/api"
	"bodkin/cluster"
	"bodkin/word"
)

// This file has a text as a plain string, and makes steps one by one as the chapter's table tells them: the other tests hold the package against it.

// boundary is a boundary of a text, with its line's number and its column.
type boundary struct{ at, line, column int }

// plain is a text with its lines and its boundaries.
type plain struct {
	text       string
	lines      []api.Span
	boundaries []boundary
}

// cut answers the plain text of text.
func cut(text string) plain {
	p := plain{text: text, boundaries: []boundary{{}}}
	begin, column := 0, 0
	for _, c := range cluster.List(text) {
		column += c.Cells
		if c.Class == api.ClassNewline {
			p.lines = append(p.lines, api.Span{From: begin, To: c.At})
			begin, column = c.To, 0
		}
		p.boundaries = append(p.boundaries, boundary{c.To, len(p.lines), column})
	}
	p.lines = append(p.lines, api.Span{From: begin, To: len(text)})
	return p
}

// number answers which of the boundaries at counts as.
func (p plain) number(at int) int {
	for n, b := range p.boundaries {
		if b.at >= at {
			return n
		}
	}
	return len(p.boundaries) - 1
}

// snap answers what at counts as.
func (p plain) snap(at int) int {
	return p.boundaries[p.number(at)].at
}

// column answers the column of at.
func (p plain) column(at int) int {
	return p.boundaries[p.number(at)].column
}

// placeAt answers the place at a column of a line that there is.
func (p plain) placeAt(line, column int) int {
	at := -1
	for _, b := range p.boundaries {
		if b.line == line && b.column <= column {
			at = b.at
		}
	}
	return at
}

// place answers the place at a column of whatever line.
func (p plain) place(line, column int) int {
	switch {
	case line < 0:
		line = 0
	case line >= len(p.lines):
		line = len(p.lines) - 1
	}
	if column < 0 {
		column = 0
	}
	return p.placeAt(line, column)
}

// step answers where a step from the boundary with that number leads, or -1 if it can't be done.
func (p plain) step(kind api.CommandKind, n, goal int) int {
	b := p.boundaries[n]
	first, last := n == 0, n == len(p.boundaries)-1
	switch kind {
	case api.DoLeft:
		if !first {
			return p.boundaries[n-1].at
		}
	case api.DoRight:
		if !last {
			return p.boundaries[n+1].at
		}
	case api.DoWordLeft:
		if !first {
			return word.Behind(p.text, b.at)
		}
	case api.DoWordRight:
		if !last {
			return word.Ahead(p.text, b.at)
		}
	case api.DoLineStart:
		return p.lines[b.line].From
	case api.DoLineEnd:
		return p.lines[b.line].To
	case api.DoTextStart:
		return 0
	case api.DoTextEnd:
		return len(p.text)
	case api.DoUp:
		return p.placeAt(b.line-1, goal)
	case api.DoDown:
		return p.placeAt(b.line+1, goal)
	}
	return -1
}

// theMotions are the kinds that the chapter lists.
var theMotions = []api.CommandKind{4, 5, 6, 7, 8, 9, 10, 11, 12, 13}

// answer is what Go answers.
type answer struct {
	to, next int
	e        api.Errno
}

// goes answers what Go must answer.
func (p plain) goes(kind api.CommandKind, at, goal, count int) answer {
	if !slices.Contains(theMotions, kind) {
		return answer{0, -1, 13}
	}
	at = p.snap(at)
	if goal < 0 {
		goal = -1
	}
	if count < 1 {
		count = 1
	}
	if count > 1000 {
		count = 1000
	}
	by := goal
	if by == -1 {
		by = p.column(at)
	}
	to, made := at, 0
	for made < count {
		next := p.step(kind, p.number(to), by)
		if next < 0 {
			break
		}
		to, made = next, made+1
	}
	switch {
	case made == 0:
		return answer{at, goal, 8}
	case kind == api.DoUp || kind == api.DoDown:
		return answer{to, by, 0}
	}
	return answer{to, -1, 0}
}

// span answers what Span must answer.
func (p plain) span(kind api.CommandKind, at, count int) (api.Span, api.Errno) {
	a := p.goes(kind, at, -1, count)
	if a.e != 0 {
		return api.Span{}, a.e
	}
	at = p.snap(at)
	if a.to < at {
		return api.Span{From: a.to, To: at}, 0
	}
	return api.Span{From: at, To: a.to}, 0
}
