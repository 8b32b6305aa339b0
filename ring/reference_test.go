package ring_test

import "bodkin/api"

// This file keeps a ring as a plain list, by the chapter's own words: the other tests hold the package against it.

// plain is what a ring is seen to be. One that keeps none stands for nil.
type plain struct {
	bound int
	// entries has the newest last, unlike the chapter: so nothing here is written as in the package.
	entries   []string
	state     string
	place     int
	keepsNone bool
}

func newPlain(bound int) *plain {
	if bound < 0 {
		bound = 0
	}
	if bound > 1000 {
		bound = 1000
	}
	return &plain{bound: bound, state: "idle"}
}

// at answers the entry number n, counted from the newest.
func (p *plain) at(n int) string {
	return p.entries[len(p.entries)-1-n]
}

func (p *plain) all() []string {
	var list []string
	for n := range p.entries {
		list = append(list, p.at(n))
	}
	return list
}

// lay makes text the newest entry, drops the oldest of too many, and answers whether text is there still.
func (p *plain) lay(text string) bool {
	p.entries = append(p.entries, text)
	if len(p.entries) > p.bound {
		p.entries = append([]string(nil), p.entries[1:]...)
	}
	return len(p.entries) > 0
}

func (p *plain) kill(text string, ahead bool) bool {
	if p.keepsNone || text == "" {
		return false
	}
	chained := p.state == "killing" && len(p.entries) > 0
	p.state = "killing"
	if !chained {
		return p.lay(text)
	}
	newest := p.at(0)
	if ahead {
		newest = text + newest
	} else {
		newest = newest + text
	}
	p.entries[len(p.entries)-1] = newest
	return true
}

func (p *plain) copy(text string) bool {
	if p.keepsNone || text == "" {
		return false
	}
	p.state = "idle"
	return p.lay(text)
}

func (p *plain) yank() (string, api.Errno) {
	if len(p.entries) == 0 {
		p.state = "idle"
		return "", api.ErrNoKill
	}
	p.state, p.place = "yanking", 0
	return p.at(0), api.OK
}

func (p *plain) pop() (string, string, api.Errno) {
	if p.state != "yanking" {
		p.state = "idle"
		return "", "", api.ErrNoYank
	}
	old := p.at(p.place)
	p.place++
	if p.place == len(p.entries) {
		p.place = 0
	}
	return old, p.at(p.place), api.OK
}

func (p *plain) stop() {
	p.state = "idle"
}

func (p *plain) clone() *plain {
	c := *p
	c.entries = append([]string(nil), p.entries...)
	return &c
}
