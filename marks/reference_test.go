package marks_test

import (
	"math"
	"math/big"

	"bodkin/api"
)

// This file keeps marks as a plain list, and answers by the chapter's own words: the other tests hold a set against it.

// names are all names, in the order in which they are told.
const names = "@abcdefghijklmnopqrstuvwxyz"

// isName answers whether c is one of names.
func isName(c byte) bool {
	for i := range len(names) {
		if names[i] == c {
			return true
		}
	}
	return false
}

// goesTo answers where the place p goes by one delta, reckoned without bounds.
func goesTo(p int, d api.Delta) int {
	place, at := big.NewInt(int64(p)), big.NewInt(int64(d.At))
	if place.Cmp(at) <= 0 {
		return p
	}
	end := new(big.Int).Add(at, big.NewInt(int64(len(d.Out))))
	if place.Cmp(end) < 0 {
		return d.At
	}
	place.Add(place, big.NewInt(int64(len(d.In))))
	place.Sub(place, big.NewInt(int64(len(d.Out))))
	// No int tells a greater place.
	if most := big.NewInt(math.MaxInt); place.Cmp(most) > 0 {
		place = most
	}
	return int(place.Int64())
}

// goesAlong answers where the place p goes by deltas, one after the other.
func goesAlong(p int, deltas []api.Delta) int {
	for _, d := range deltas {
		p = goesTo(p, d)
	}
	return p
}

// plain is what a set is seen to be: its marks in the order in which they were put. One that keeps none stands for nil.
type plain struct {
	list      []api.Mark
	keepsNone bool
}

// find answers where in the list the mark name stands, or -1.
func (p *plain) find(name byte) int {
	for i, m := range p.list {
		if m.Name == name {
			return i
		}
	}
	return -1
}

func (p *plain) put(name byte, at int) api.Errno {
	if !isName(name) {
		return api.ErrKind
	}
	if at < 0 {
		return api.ErrRange
	}
	if p.keepsNone {
		return api.ErrNoMark
	}
	if i := p.find(name); i >= 0 {
		p.list[i].At = at
		return api.OK
	}
	p.list = append(p.list, api.Mark{Name: name, At: at})
	return api.OK
}

func (p *plain) get(name byte) (int, api.Errno) {
	if !isName(name) {
		return 0, api.ErrKind
	}
	if i := p.find(name); i >= 0 {
		return p.list[i].At, api.OK
	}
	return 0, api.ErrNoMark
}

func (p *plain) drop(name byte) api.Errno {
	_, e := p.get(name)
	if e != api.OK {
		return e
	}
	i := p.find(name)
	p.list = append(p.list[:i:i], p.list[i+1:]...)
	return api.OK
}

func (p *plain) load(marks []api.Mark) {
	p.list = nil
	for _, m := range marks {
		if isName(m.Name) && m.At >= 0 {
			p.put(m.Name, m.At)
		}
	}
}

func (p *plain) all() []api.Mark {
	var list []api.Mark
	for i := range len(names) {
		if at, e := p.get(names[i]); e == api.OK {
			list = append(list, api.Mark{Name: names[i], At: at})
		}
	}
	return list
}

func (p *plain) move(deltas []api.Delta) {
	for i := range p.list {
		p.list[i].At = goesAlong(p.list[i].At, deltas)
	}
}

// snap answers how many marks went to another offset, and what was asked.
func (p *plain) snap(to func(at int) int) (int, []int) {
	went := 0
	var asked []int
	for _, m := range p.all() {
		asked = append(asked, m.At)
		if at := to(m.At); at >= 0 {
			if at != m.At {
				went++
			}
			p.put(m.Name, at)
		}
	}
	return went, asked
}

func (p *plain) clone() *plain {
	return &plain{list: append([]api.Mark(nil), p.list...), keepsNone: p.keepsNone}
}
