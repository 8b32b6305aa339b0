package gap_test

import (
	"math/big"

	"bodkin/api"
	"bodkin/metric"
)

// This file keeps a text as a plain string and answers by the chapter's own words: the other tests hold a buffer against it.

// plain is what a buffer is seen to be, but for its capacity.
type plain struct {
	text         string
	place, limit int
}

// counted answers the limit that n counts as.
func counted(n int) int {
	switch {
	case n < 0:
		return 0
	case n > 1073741824:
		return 1073741824
	}
	return n
}

// longer tells whether a text of rest bytes and put is longer than the limit.
func (p *plain) longer(rest int, put string) bool {
	return rest+len(put) > p.limit
}

func (p *plain) slice(from, to int) (string, api.Errno) {
	if 0 <= from && from <= to && to <= len(p.text) {
		return p.text[from:to], api.OK
	}
	return "", api.ErrRange
}

func (p *plain) byteAt(at int) (byte, api.Errno) {
	if 0 <= at && at < len(p.text) {
		return p.text[at], api.OK
	}
	return 0, api.ErrRange
}

// index tries each offset, one by one.
func (p *plain) index(part string, from int) int {
	if from < 0 {
		from = 0
	}
	for at := from; at <= len(p.text); at++ {
		if len(p.text)-at >= len(part) && p.text[at:at+len(part)] == part {
			return at
		}
	}
	return -1
}

func (p *plain) measure(from, to int) (api.Summary, api.Errno) {
	s, e := p.slice(from, to)
	if e != api.OK {
		return api.Summary{}, e
	}
	return metric.Measure(s), api.OK
}

func (p *plain) move(at int) api.Errno {
	if 0 <= at && at <= len(p.text) {
		p.place = at
		return api.OK
	}
	return api.ErrRange
}

func (p *plain) replace(at, cut int, put string) (string, api.Errno) {
	sum := new(big.Int).Add(big.NewInt(int64(at)), big.NewInt(int64(cut)))
	if at < 0 || cut < 0 || sum.Cmp(big.NewInt(int64(len(p.text)))) > 0 {
		return "", api.ErrRange
	}
	if p.longer(len(p.text)-cut, put) {
		return "", api.ErrFull
	}
	out := p.text[at : at+cut]
	p.text = p.text[:at] + put + p.text[at+cut:]
	p.place = at + len(put)
	return out, api.OK
}

func (p *plain) reset(s string) api.Errno {
	if p.longer(0, s) {
		return api.ErrFull
	}
	p.text, p.place = s, len(s)
	return api.OK
}
