package lines

import (
	"strings"

	"bodkin/api"
	"bodkin/cluster"
	"bodkin/store"
)

// near is how many bytes on either side of an offset tell whether it is a boundary.
const near = 4

// short is up to which length a piece is read, not measured: in a rope it lies in few leaves.
const short = api.MostLeaf

// view is a text of n bytes as it is looked at. What a text of another's making refuses to tell, or panics at, counts as nothing.
type view struct {
	text store.Text
	n    int
}

// look answers the view of t.
func look(t store.Text) view {
	if t == nil {
		// A nil store is an empty text.
		t = (*store.Store)(nil)
	}
	v := view{text: t}
	// No text is longer: one that says so would have offsets near which sums wrap round.
	quietly(func() { v.n = min(max(t.Len(), 0), api.MostBytes) })
	return v
}

// quietly asks a text, and lets nothing of its panics out.
func quietly(ask func()) {
	defer func() { recover() }()
	ask()
}

// has answers whether at is an offset of the text.
func (v view) has(at int) bool {
	return 0 <= at && at <= v.n
}

// piece answers the bytes from from up to to.
func (v view) piece(from, to int) (s string) {
	quietly(func() { s, _ = v.text.Slice(from, to) })
	return s
}

// measure answers the summary of the bytes from from up to to.
func (v view) measure(from, to int) (m api.Summary) {
	quietly(func() { m, _ = v.text.Measure(from, to) })
	return m
}

// newlines answers the number of bytes LF from from up to to.
func (v view) newlines(from, to int) int {
	if to-from <= short {
		return strings.Count(v.piece(from, to), "\n")
	}
	return v.measure(from, to).Newlines
}

// cells answers the cells of the clusters between two boundaries.
func (v view) cells(from, to int) int {
	return v.measure(from, to).Cells
}

// boundary answers the greatest boundary that is not above at.
func (v view) boundary(at int) int {
	to := min(at+near, v.n)
	for reach := short; ; reach *= 2 {
		from := max(at-reach, 0)
		last := from + cluster.Prev(v.piece(from, to), at-from+1)
		// Nearer to where the piece was cut off, its own boundaries need not be the text's.
		if last >= from+near || from == 0 {
			return last
		}
	}
}

// behind answers the offset right behind the LF number count, from 1 on, of those between from and to, and whether there are so many.
func (v view) behind(from, to, count int) (int, bool) {
	for to-from > short {
		mid := from + (to-from)/2
		if n := v.newlines(from, mid); n < count {
			from, count = mid, count-n
		} else {
			to = mid
		}
	}
	for at, b := range []byte(v.piece(from, to)) {
		if b != '\n' {
			continue
		}
		if count--; count == 0 {
			return from + at + 1, true
		}
	}
	return 0, false
}

// begin answers where the line of the offset at begins.
func (v view) begin(at int) int {
	for reach := short; at > 0; reach *= 2 {
		from := max(at-reach, 0)
		if n := v.newlines(from, at); n > 0 {
			from, _ = v.behind(from, at, n)
			return from
		}
		at = from
	}
	return 0
}

// next answers where the line begins that follows the one of the offset at, and whether there is one.
func (v view) next(at int) (int, bool) {
	for reach := short; at < v.n; reach *= 2 {
		to := min(at+reach, v.n)
		if v.newlines(at, to) > 0 {
			return v.behind(at, to, 1)
		}
		at = to
	}
	return 0, false
}

// span answers where the line begins and ends.
func (v view) span(line int) (api.Span, api.Errno) {
	from, ok := 0, line == 0
	if line > 0 {
		from, ok = v.behind(0, v.n, line)
	}
	if !ok {
		return api.Span{}, api.ErrRange
	}
	span, _, _ := v.spanFrom(from)
	return span, api.OK
}

// spanFrom answers the span of the line that begins at from, where the next one begins, and whether there is one.
func (v view) spanFrom(from int) (span api.Span, next int, more bool) {
	next, more = v.next(from)
	if !more {
		return api.Span{From: from, To: v.n}, 0, false
	}
	to := next - 1
	if to > from && v.piece(to-1, to) == "\r" {
		to--
	}
	return api.Span{From: from, To: to}, next, true
}

// spans answers the spans of all lines.
func (v view) spans() []api.Span {
	span, next, more := v.spanFrom(0)
	list := []api.Span{span}
	for more {
		span, next, more = v.spanFrom(next)
		list = append(list, span)
	}
	return list
}

// reach answers the last boundary of a line ahead of which it has no more than so many cells.
func (v view) reach(line api.Span, cells int) int {
	from, to := line.From, line.To
	for to-from > short {
		mid := v.boundary(from + (to-from)/2)
		if mid <= from {
			// One cluster takes half of what is left, and has been read to find that out: so the rest may be read as well.
			break
		}
		if n := v.cells(from, mid); n <= cells {
			from, cells = mid, cells-n
		} else {
			to = mid
		}
	}
	for c := range cluster.Walk(v.piece(from, to)) {
		if c.Cells > cells {
			return from + c.At
		}
		cells -= c.Cells
	}
	return to
}
