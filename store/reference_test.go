package store_test

import (
	"math/big"

	"bodkin/api"
	"bodkin/cluster"
	"bodkin/metric"
)

// This file keeps a text as a plain string, with a store's numbers beside it, and answers by the chapter's own words: the other tests hold a store against it.

// plain is what a store is seen to be.
type plain struct {
	text          string
	kind, backend api.Kind
	lo, hi, limit int
	counts        api.Counts
}

// newPlain answers what New makes, and nil where it refuses.
func newPlain(kind api.Kind, lo, hi, limit int, s string) *plain {
	limit = heldTo(limit, 1073741824)
	if len(s) > limit {
		return nil
	}
	if kind != 1 && kind != 2 {
		kind = 3
	}
	lo = heldTo(lo, 1073741824)
	if hi <= lo {
		hi = lo + 1
	}
	backend := kind
	if kind == 3 {
		backend = 1
		if len(s) >= hi {
			backend = 2
		}
	}
	return &plain{text: s, kind: kind, backend: backend, lo: lo, hi: hi, limit: limit}
}

// noPlain answers what nil and the zero Store are.
func noPlain() *plain {
	return &plain{kind: 3, backend: 1, lo: 0, hi: 1}
}

// heldTo answers what n counts as between 0 and most.
func heldTo(n, most int) int {
	switch {
	case n < 0:
		return 0
	case n > most:
		return most
	}
	return n
}

func (p *plain) slice(from, to int) (string, api.Errno) {
	if 0 <= from && from <= to && to <= len(p.text) {
		return p.text[from:to], api.OK
	}
	return "", api.ErrRange
}

func (p *plain) measure(from, to int) (api.Summary, api.Errno) {
	s, e := p.slice(from, to)
	if e != api.OK {
		return api.Summary{}, e
	}
	return metric.Measure(s), api.OK
}

func (p *plain) places(at int) places {
	return places{cluster.Boundary(p.text, at), cluster.Next(p.text, at), cluster.Prev(p.text, at), cluster.Snap(p.text, at)}
}

// edit does what Replace does and what the other edits stand for.
func (p *plain) edit(at, cut int, put string) (string, api.Errno) {
	sum := new(big.Int).Add(big.NewInt(int64(at)), big.NewInt(int64(cut)))
	if at < 0 || cut < 0 || sum.Cmp(big.NewInt(int64(len(p.text)))) > 0 {
		return "", api.ErrRange
	}
	if len(p.text)-cut+len(put) > p.limit {
		return "", api.ErrFull
	}
	out := p.text[at : at+cut]
	p.text = p.text[:at] + put + p.text[at+cut:]
	p.counts.Edited += cut + len(put)
	if p.kind == 3 && p.backend == 1 && len(p.text) >= p.hi {
		p.backend = 2
		p.counts.Moves++
	} else if p.kind == 3 && p.backend == 2 && len(p.text) <= p.lo {
		p.backend = 1
		p.counts.Moves++
	}
	return out, api.OK
}

func (p *plain) switchTo(to api.Kind) api.Errno {
	if to != 1 && to != 2 {
		return api.ErrKind
	}
	if to != p.backend {
		p.backend = to
		p.counts.Forced++
	}
	return api.OK
}
