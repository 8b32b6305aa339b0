package hist_test

import "bodkin/api"

// This file keeps a history as a plain list, by the chapter's own words: the other tests hold the package against it.

// plain is what a history is seen to be. One that keeps none stands for nil.
type plain struct {
	bound int
	// entries has the newest first, and up counts the steps from the bottom, unlike the chapter: so nothing here is written as in the package.
	entries   []string
	up        int
	drafts    map[int]string
	keepsNone bool
}

func newPlain(bound int) *plain {
	if bound < 0 {
		bound = 0
	}
	if bound > 1000 {
		bound = 1000
	}
	return &plain{bound: bound, drafts: map[int]string{}}
}

func (p *plain) place() int {
	return len(p.entries) - p.up
}

// at answers the entry number i, counted from the oldest.
func (p *plain) at(i int) string {
	return p.entries[len(p.entries)-1-i]
}

func (p *plain) entry(i int) (string, api.Errno) {
	for n := range p.entries {
		if n == i {
			return p.at(n), api.OK
		}
	}
	return "", api.ErrRange
}

func (p *plain) all() []string {
	var list []string
	for n := range p.entries {
		list = append(list, p.at(n))
	}
	return list
}

func (p *plain) home() {
	p.up, p.drafts = 0, map[int]string{}
}

func (p *plain) add(line string) bool {
	p.home()
	again := len(p.entries) > 0 && p.entries[0] == line
	if line == "" || again || p.bound == 0 {
		return false
	}
	p.entries = append([]string{line}, p.entries...)
	if len(p.entries) > p.bound {
		p.entries = p.entries[:p.bound]
	}
	return true
}

// leave keeps now, takes so many steps up, and answers what stands there.
func (p *plain) leave(steps int, now string) string {
	if p.keepsNone {
		return ""
	}
	p.drafts[p.up] = now
	p.up += steps
	if text, ok := p.drafts[p.up]; ok {
		return text
	}
	if p.up == 0 {
		return ""
	}
	return p.entries[p.up-1]
}

func (p *plain) back(now string) (string, api.Errno) {
	if p.up == len(p.entries) {
		return "", api.ErrNoHistory
	}
	return p.leave(1, now), api.OK
}

func (p *plain) forward(now string) (string, api.Errno) {
	if p.up == 0 {
		return "", api.ErrNoHistory
	}
	return p.leave(-1, now), api.OK
}

func (p *plain) goTo(place int, now string) (string, api.Errno) {
	for n := range len(p.entries) + 1 {
		if n == place {
			return p.leave(p.place()-n, now), api.OK
		}
	}
	return "", api.ErrRange
}

// find tries every entry and every offset from the least on: what it has found last is the greatest.
func (p *plain) find(part string, below int) (int, int, api.Errno) {
	number, offset, e := 0, 0, api.ErrNotFound
	for i := range p.entries {
		for at := range len(p.at(i)) {
			rest := p.at(i)[at:]
			if part != "" && i < below && len(rest) >= len(part) && rest[:len(part)] == part {
				number, offset, e = i, at, api.OK
			}
		}
	}
	return number, offset, e
}
