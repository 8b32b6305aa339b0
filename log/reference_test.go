package log_test

import (
	"math/big"

	"bodkin/api"
)

// This file does deltas byte by byte and keeps a log as plain lists, by the chapter's own words: the other tests hold the package against it.

// place answers at + n, reckoned without bounds.
func place(at, n int) *big.Int {
	return new(big.Int).Add(big.NewInt(int64(at)), big.NewInt(int64(n)))
}

// fitsPlainly answers whether d fits text.
func fitsPlainly(text string, d api.Delta) bool {
	if d.At < 0 || place(d.At, len(d.Out)).Cmp(place(len(text), 0)) > 0 {
		return false
	}
	for i := range len(d.Out) {
		if text[d.At+i] != d.Out[i] {
			return false
		}
	}
	return true
}

// applied answers the text behind deltas, and whether all of them fit.
func applied(text string, deltas []api.Delta) (string, bool) {
	for _, d := range deltas {
		if !fitsPlainly(text, d) {
			return "", false
		}
		text = text[:d.At] + d.In + text[d.At+len(d.Out):]
	}
	return text, true
}

// touching answers whether a and b touch.
func touching(a, b api.Delta) bool {
	return a.At >= 0 && b.At >= 0 &&
		place(b.At, 0).Cmp(place(a.At, len(a.In))) <= 0 &&
		place(a.At, 0).Cmp(place(b.At, len(b.Out))) <= 0
}

// outside answers what of a text that begins at at lies ahead of from, what lies behind to, and what lies between, byte by byte.
func outside(at int, text string, from, to *big.Int) (ahead, between, behind string) {
	for i := range len(text) {
		switch p := place(at, i); {
		case p.Cmp(from) < 0:
			ahead += text[i : i+1]
		case p.Cmp(to) >= 0:
			behind += text[i : i+1]
		default:
			between += text[i : i+1]
		}
	}
	return ahead, between, behind
}

// merged answers the one delta that does a and then b.
func merged(a, b api.Delta) (api.Delta, bool) {
	if !touching(a, b) {
		return api.Delta{}, false
	}
	outAhead, outUpon, outBehind := outside(b.At, b.Out, place(a.At, 0), place(a.At, len(a.In)))
	inAhead, inUpon, inBehind := outside(a.At, a.In, place(b.At, 0), place(b.At, len(b.Out)))
	if outUpon != inUpon {
		return api.Delta{}, false
	}
	at := a.At
	if b.At < a.At {
		at = b.At
	}
	return api.Delta{At: at, Out: outAhead + a.Out + outBehind, In: inAhead + b.In + inBehind}, true
}

// back answers deltas inverted, the last one first.
func back(deltas []api.Delta) []api.Delta {
	var list []api.Delta
	for i := len(deltas) - 1; i >= 0; i-- {
		list = append(list, api.Delta{At: deltas[i].At, Out: deltas[i].In, In: deltas[i].Out})
	}
	return list
}

// plainGroup is a group; none is ever changed, another takes its place.
type plainGroup[T any] struct {
	deltas        []api.Delta
	ahead, behind T
}

// plain is what a log is seen to be. One that keeps none stands for nil.
type plain[T any] struct {
	bound     int
	undo      []plainGroup[T]
	redo      []plainGroup[T]
	isOpen    bool
	isResumed bool
	// was is the open group as it was when it was opened, added what came to it since.
	was       plainGroup[T]
	added     []api.Delta
	keepsNone bool
}

func newPlain[T any](bound int) *plain[T] {
	if bound < 0 {
		bound = 0
	}
	if bound > 1000 {
		bound = 1000
	}
	return &plain[T]{bound: bound}
}

func (p *plain[T]) begin(ahead T) bool {
	if p.keepsNone || p.isOpen {
		return false
	}
	p.isOpen, p.isResumed, p.was, p.added = true, false, plainGroup[T]{ahead: ahead}, nil
	return true
}

func (p *plain[T]) resume() bool {
	if p.isOpen || len(p.redo) > 0 || len(p.undo) == 0 {
		return false
	}
	p.isOpen, p.isResumed, p.added = true, true, nil
	p.was, p.undo = p.undo[len(p.undo)-1], p.undo[:len(p.undo)-1]
	return true
}

func (p *plain[T]) add(deltas []api.Delta) bool {
	if !p.isOpen {
		return false
	}
	for _, d := range deltas {
		if d.Out == "" && d.In == "" {
			continue
		}
		p.added = append(p.added, d)
	}
	return true
}

func (p *plain[T]) commit(behind T) bool {
	if !p.isOpen {
		return false
	}
	p.isOpen = false
	all := append(append([]api.Delta(nil), p.was.deltas...), p.added...)
	if len(all) == 0 {
		return false
	}
	p.redo = nil
	p.undo = append(p.undo, plainGroup[T]{all, p.was.ahead, behind})
	if len(p.undo) > p.bound {
		p.undo = append([]plainGroup[T](nil), p.undo[1:]...)
	}
	return len(p.undo) > 0
}

func (p *plain[T]) cancel() ([]api.Delta, bool) {
	if !p.isOpen {
		return nil, false
	}
	p.isOpen = false
	if p.isResumed {
		p.undo = append(p.undo, p.was)
	}
	return back(p.added), true
}

func (p *plain[T]) undone() ([]api.Delta, T, api.Errno) {
	if p.isOpen || len(p.undo) == 0 {
		var zero T
		return nil, zero, api.ErrNoUndo
	}
	g := p.undo[len(p.undo)-1]
	p.undo = p.undo[:len(p.undo)-1]
	p.redo = append(p.redo, g)
	return back(g.deltas), g.ahead, api.OK
}

func (p *plain[T]) redone() ([]api.Delta, T, api.Errno) {
	if p.isOpen || len(p.redo) == 0 {
		var zero T
		return nil, zero, api.ErrNoRedo
	}
	g := p.redo[len(p.redo)-1]
	p.redo = p.redo[:len(p.redo)-1]
	p.undo = append(p.undo, g)
	return g.deltas, g.behind, api.OK
}

func (p *plain[T]) clear() {
	p.isOpen, p.undo, p.redo = false, nil, nil
}
