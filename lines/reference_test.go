package lines_test

import (
	"strings"

	"bodkin/api"
	"bodkin/cluster"
)

// This file cuts a plain string into its lines, and answers by the chapter's own words: the other tests hold the package against it.

// place is a boundary of a line, and its column.
type place struct{ at, column int }

// plain is a text with its lines, and with the boundaries of each line.
type plain struct {
	text   string
	spans  []api.Span
	places [][]place
}

// cut answers the plain text of text.
func cut(text string) plain {
	p := plain{text: text}
	begin := 0
	for i := 0; i < len(text); i++ {
		switch {
		case text[i] == '\n':
			p.spans = append(p.spans, api.Span{From: begin, To: i})
			begin = i + 1
		case strings.HasPrefix(text[i:], "\r\n"):
			p.spans = append(p.spans, api.Span{From: begin, To: i})
			begin = i + 2
			i++
		}
	}
	p.spans = append(p.spans, api.Span{From: begin, To: len(text)})
	p.places = make([][]place, len(p.spans))
	// The clusters are those of the whole text.
	line, column := 0, 0
	p.places[0] = []place{{0, 0}}
	for _, c := range cluster.List(text) {
		if c.Class == api.ClassNewline {
			line, column = line+1, 0
		}
		column += c.Cells
		p.places[line] = append(p.places[line], place{c.To, column})
	}
	return p
}

// has answers whether at is an offset.
func (p plain) has(at int) bool {
	return 0 <= at && at <= len(p.text)
}

// hasLine answers whether there is such a line.
func (p plain) hasLine(line int) bool {
	return 0 <= line && line < len(p.spans)
}

func (p plain) of(at int) (int, api.Errno) {
	if !p.has(at) {
		return 0, api.ErrRange
	}
	return strings.Count(p.text[:at], "\n"), api.OK
}

func (p plain) span(line int) (api.Span, api.Errno) {
	if !p.hasLine(line) {
		return api.Span{}, api.ErrRange
	}
	return p.spans[line], api.OK
}

func (p plain) line(line int) (string, api.Errno) {
	if !p.hasLine(line) {
		return "", api.ErrRange
	}
	return p.text[p.spans[line].From:p.spans[line].To], api.OK
}

func (p plain) column(at int) (int, api.Errno) {
	line, e := p.of(at)
	if e != api.OK {
		return 0, e
	}
	column := 0
	for _, b := range p.places[line] {
		if b.at <= at {
			column = b.column
		}
	}
	return column, api.OK
}

func (p plain) at(line, column int) (int, api.Errno) {
	if !p.hasLine(line) {
		return 0, api.ErrRange
	}
	at := p.spans[line].From
	for _, b := range p.places[line] {
		if b.column <= column {
			at = b.at
		}
	}
	return at, api.OK
}
