package seek

import (
	"bodkin/api"
	"bodkin/cluster"
	"bodkin/metric"
	"bodkin/rope"
)

// place is an offset of a text, with what is known of the text on both sides: the summary of all that lies ahead, and as many bytes behind as a summary's Head has.
type place struct {
	ahead  api.Summary
	behind string
}

// boundary answers whether a cluster's boundary of the whole text stands here.
func (p place) boundary() bool {
	near := p.ahead.Tail
	return cluster.Boundary(near+p.behind, len(near))
}

// begun answers the count of what begins ahead of here, as it is in the whole text.
func (p place) begun(c count) int {
	near := p.ahead.Tail
	return far(c, p.ahead) + countedTo(c, near+p.behind, len(near))
}

// far answers the count of a text by its summary, but for its last bytes, those that the summary keeps. The text was counted as if nothing followed it; where something does, only these bytes may count otherwise.
func far(c count, m api.Summary) int {
	return all(c, m) - countedTo(c, m.Tail, len(m.Tail))
}

// countedTo answers the count of what begins in s ahead of to.
func countedTo(c count, s string, to int) int {
	sum := 0
	for x := range cluster.Walk(s) {
		if at, n := item(c, x); at < to {
			sum += n
		}
	}
	return sum
}

// placeAt answers the place at the offset of t that is nearest to at.
func placeAt(t rope.Tree, at int) place {
	ahead, text, behind := down(t, func(here place) bool { return here.ahead.Bytes <= at })
	n := min(max(at-ahead.Bytes, 0), len(text))
	return place{metric.Join(ahead, metric.Measure(text[:n])), first(first(text[n:]) + behind)}
}

// found answers the byte at which the item begins that the number n of the count belongs to.
func found(t rope.Tree, c count, n int) (int, api.Errno) {
	if n < 0 || n >= all(c, t.Sum()) {
		return 0, api.ErrRange
	}
	// What is searched for begins at the last byte ahead of which no more than n have begun.
	ahead, text, behind := down(t, func(here place) bool { return here.begun(c) <= n })
	near := ahead.Tail
	return ahead.Bytes - len(near) + search(c, near+text+behind, n-far(c, ahead)), api.OK
}

// search answers the byte of s at which the item begins that the number n of the count belongs to.
func search(c count, s string, n int) int {
	for x := range cluster.Walk(s) {
		at, more := item(c, x)
		if n < more {
			return at
		}
		n -= more
	}
	// Only a tree whose summaries are wrong comes here.
	return len(s)
}

// down goes down from t to a leaf, at each knot to the right, if right answers true of the place between its parts. It answers the summary of what lies ahead of the leaf, the leaf's text and the first bytes behind it.
func down(t rope.Tree, right func(between place) bool) (ahead api.Summary, text, behind string) {
	for {
		one, two, ok := t.Parts()
		if !ok {
			return ahead, t.Text(), behind
		}
		one, two = some(one), some(two)
		between := place{metric.Join(ahead, one.Sum()), first(two.Sum().Head + behind)}
		if right(between) {
			ahead, t = between.ahead, two
		} else {
			behind, t = between.behind, one
		}
	}
}

// first answers as many of the first bytes of s as a summary keeps.
func first(s string) string {
	return s[:min(len(s), api.MostEnds)]
}
