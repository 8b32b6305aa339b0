package buffer_test

import (
	"maps"
	"math/big"

	"bodkin/api"
	"bodkin/cluster"
)

// This file keeps a buffer as whole texts, by the chapter's own words: the other tests hold the package against it.

// names are the names of marks, in the order in which marks are told.
const names = "@abcdefghijklmnopqrstuvwxyz"

// standing is a text, its cursor and its marks. None is ever changed: another takes its place.
type standing struct {
	text   string
	cursor int
	marks  map[byte]int
}

// list answers the marks in the order in which they are told.
func (s standing) list() []api.Mark {
	var list []api.Mark
	for i := range len(names) {
		if at, ok := s.marks[names[i]]; ok {
			list = append(list, api.Mark{Name: names[i], At: at})
		}
	}
	return list
}

// with answers the standing with one mark more.
func (s standing) with(name byte, at int) standing {
	s.marks = maps.Clone(s.marks)
	s.marks[name] = at
	return s
}

// snapped answers the standing with the cursor and the marks at boundaries.
func (s standing) snapped() standing {
	s.cursor = cluster.Snap(s.text, s.cursor)
	s.marks = maps.Clone(s.marks)
	for name, at := range s.marks {
		s.marks[name] = cluster.Snap(s.text, at)
	}
	return s
}

// step is what one edit is to a store: how long the text is on both sides of it, and how many bytes go out and come in.
type step struct {
	ahead, behind, edited int
}

// plainGroup is a group with whole texts; the steps are there for the counts alone.
type plainGroup struct {
	ahead, behind standing
	steps         []step
}

// plain is what a buffer is seen to be. One that keeps none stands for nil.
type plain struct {
	now           standing
	undos, redos  []plainGroup
	run           int
	bound, limit  int
	kind, backend api.Kind
	lo, hi        int
	counts        api.Counts
	keepsNone     bool
}

// held answers what n counts as between 0 and most.
func held(n, most int) int {
	if n < 0 {
		return 0
	}
	if n > most {
		return most
	}
	return n
}

func newPlain(c api.Config) *plain {
	p := &plain{bound: held(c.Undo, 1000), limit: held(c.Text, 1073741824), lo: held(c.Low, 1073741824), hi: c.High, kind: c.Store, backend: c.Store}
	p.now.marks = map[byte]int{}
	if p.hi <= p.lo {
		p.hi = p.lo + 1
	}
	if p.kind != 1 && p.kind != 2 {
		p.kind, p.backend = 3, 1
	}
	return p
}

// noPlain answers what nil is.
func noPlain() *plain {
	p := newPlain(api.Config{})
	p.keepsNone, p.backend = true, 0
	return p
}

// stored counts an edit behind which the text has that length.
func (p *plain) stored(length, edited int) {
	p.counts.Edited += edited
	switch {
	case p.kind == 3 && p.backend == 1 && length >= p.hi:
		p.backend = 2
		p.counts.Moves++
	case p.kind == 3 && p.backend == 2 && length <= p.lo:
		p.backend = 1
		p.counts.Moves++
	}
}

func (p *plain) slice(from, to int) (string, api.Errno) {
	if 0 <= from && from <= to && to <= len(p.now.text) {
		return p.now.text[from:to], api.OK
	}
	return "", api.ErrRange
}

func (p *plain) mark(name byte) (int, api.Errno) {
	at, ok := p.now.marks[name]
	if !ok {
		return 0, api.ErrNoMark
	}
	return at, api.OK
}

// inText answers whether at is from 0 to the length.
func (p *plain) inText(at int) bool {
	return 0 <= at && at <= len(p.now.text)
}

func (p *plain) goTo(at int) api.Errno {
	if !p.inText(at) {
		return api.ErrRange
	}
	p.now.cursor = cluster.Snap(p.now.text, at)
	p.run = 0
	return api.OK
}

func (p *plain) setMark(name byte, at int) api.Errno {
	if name != '@' && (name < 'a' || name > 'z') {
		return api.ErrNoMark
	}
	if !p.inText(at) {
		return api.ErrRange
	}
	if !p.keepsNone {
		p.now = p.now.with(name, cluster.Snap(p.now.text, at))
		p.run = 0
	}
	return api.OK
}

// outOfRange answers whether a text of that length has no Cut bytes from At on.
func outOfRange(edit api.Edit, length int) bool {
	sum := new(big.Int).Add(big.NewInt(int64(edit.At)), big.NewInt(int64(edit.Cut)))
	return edit.At < 0 || edit.Cut < 0 || sum.Cmp(big.NewInt(int64(length))) > 0
}

// gone answers where a place goes by an edit that is done.
func gone(place int, edit api.Edit) int {
	if place <= edit.At {
		return place
	}
	if place < edit.At+edit.Cut {
		return edit.At
	}
	return place + len(edit.Put) - edit.Cut
}

// edited answers the standing behind an edit that can be done.
func (s standing) edited(edit api.Edit) standing {
	next := standing{text: s.text[:edit.At] + edit.Put + s.text[edit.At+edit.Cut:], cursor: gone(s.cursor, edit), marks: map[byte]int{}}
	for name, at := range s.marks {
		next.marks[name] = gone(at, edit)
	}
	return next
}

func (p *plain) do(edits []api.Edit, cursor int, run bool) api.Errno {
	next, steps := p.now, []step(nil)
	for _, edit := range edits {
		length := len(next.text)
		if outOfRange(edit, length) {
			return api.ErrRange
		}
		if length-edit.Cut+len(edit.Put) > p.limit {
			return api.ErrFull
		}
		if next.text[edit.At:edit.At+edit.Cut] != edit.Put {
			next = next.edited(edit)
			steps = append(steps, step{length, len(next.text), edit.Cut + len(edit.Put)})
		}
	}
	if cursor < -1 || cursor > len(next.text) {
		return api.ErrRange
	}
	if cursor != -1 {
		next.cursor = cursor
	}
	ahead := p.now
	p.now = next.snapped()
	for _, s := range steps {
		p.stored(s.behind, s.edited)
	}
	p.group(plainGroup{ahead, p.now, steps}, run)
	return api.OK
}

// group does what is said of groups and runs behind the edits of a Do.
func (p *plain) group(g plainGroup, run bool) {
	switch {
	case len(g.steps) == 0:
		p.run = 0
	case run && 1 <= p.run && p.run <= 19:
		p.run++
		if p.bound > 0 {
			newest := p.undos[len(p.undos)-1]
			g.ahead, g.steps = newest.ahead, append(append([]step(nil), newest.steps...), g.steps...)
			p.undos = append(append([]plainGroup(nil), p.undos[:len(p.undos)-1]...), g)
		}
	default:
		p.run = 0
		if run {
			p.run = 1
		}
		p.redos = nil
		p.undos = append(append([]plainGroup(nil), p.undos...), g)
		if len(p.undos) > p.bound {
			p.undos = p.undos[1:]
		}
	}
}

func (p *plain) undo() api.Errno {
	if len(p.undos) == 0 {
		return api.ErrNoUndo
	}
	g := p.undos[len(p.undos)-1]
	p.undos, p.redos = p.undos[:len(p.undos)-1], append(append([]plainGroup(nil), p.redos...), g)
	for i := len(g.steps) - 1; i >= 0; i-- {
		p.stored(g.steps[i].ahead, g.steps[i].edited)
	}
	p.now, p.run = g.ahead, 0
	return api.OK
}

func (p *plain) redo() api.Errno {
	if len(p.redos) == 0 {
		return api.ErrNoRedo
	}
	g := p.redos[len(p.redos)-1]
	p.redos, p.undos = p.redos[:len(p.redos)-1], append(append([]plainGroup(nil), p.undos...), g)
	for _, s := range g.steps {
		p.stored(s.behind, s.edited)
	}
	p.now, p.run = g.behind, 0
	return api.OK
}

func (p *plain) reset(text string) api.Errno {
	if len(text) > p.limit {
		return api.ErrFull
	}
	if p.keepsNone {
		return api.OK
	}
	was := len(p.now.text)
	p.now = standing{text, len(text), map[byte]int{}}
	p.undos, p.redos, p.run = nil, nil, 0
	p.stored(len(text), was+len(text))
	return api.OK
}

func (p *plain) switchTo(to api.Kind) api.Errno {
	if p.keepsNone || to != 1 && to != 2 {
		return api.ErrKind
	}
	if to != p.backend {
		p.backend = to
		p.counts.Forced++
	}
	return api.OK
}
