package change_test

import (
	"bodkin/api"
	"bodkin/change"
	"bodkin/cluster"
	"bodkin/word"
)

// This file has a text cut into its boundaries, lines and words, and makes changes of it by the chapter's words: the other tests hold the package against it.

// plain is a text with what it is made of.
type plain struct {
	text       string
	boundaries []int
	lines      []api.Span
	words      []api.Span
}

// cut answers the plain text of text.
func cut(text string) plain {
	p := plain{text: text, boundaries: []int{0}, words: word.Spans(text)}
	begin := 0
	for _, c := range cluster.List(text) {
		p.boundaries = append(p.boundaries, c.To)
		if c.Class == api.ClassNewline {
			p.lines = append(p.lines, api.Span{From: begin, To: c.At})
			begin = c.To
		}
	}
	p.lines = append(p.lines, api.Span{From: begin, To: len(text)})
	return p
}

// number answers which of the boundaries at counts as.
func (p plain) number(at int) int {
	for n, b := range p.boundaries {
		if b >= at {
			return n
		}
	}
	return len(p.boundaries) - 1
}

// line answers the number of the line of the boundary at.
func (p plain) line(at int) int {
	for n, line := range p.lines {
		if line.From <= at && at <= line.To {
			return n
		}
	}
	panic("a boundary without a line")
}

// aheads answers where layer 5's Ahead, taken count times, leads.
func (p plain) aheads(at, count int) int {
	for range count {
		to := len(p.text)
		for n := len(p.words) - 1; n >= 0 && p.words[n].To > at; n-- {
			to = p.words[n].To
		}
		at = to
	}
	return at
}

// behinds answers where layer 5's Behind, taken count times, leads.
func (p plain) behinds(at, count int) int {
	for range count {
		to := 0
		for n := 0; n < len(p.words) && p.words[n].From < at; n++ {
			to = p.words[n].From
		}
		at = to
	}
	return at
}

// lineEnds answers the place that DoKillLineEnd cuts up to.
func (p plain) lineEnds(at, count int) int {
	for range count {
		n := p.line(at)
		switch {
		case at != p.lines[n].To:
			at = p.lines[n].To
		case n+1 < len(p.lines):
			at = p.lines[n+1].From
		}
	}
	return at
}

// answer is what Of answers.
type answer struct {
	change change.Change
	e      api.Errno
}

// refused is the answer beside an error.
func refused(e api.Errno) answer { return answer{e: e} }

// cuts is the change that cuts from from up to to, and leaves the cursor there.
func cuts(from, to int) answer {
	return answer{change: change.Change{Edit: api.Edit{At: from, Cut: to - from}, Cursor: from}}
}

// kills is the change that kills from from up to to.
func (p plain) kills(from, to int, ahead bool) answer {
	a := cuts(from, to)
	a.change.Kill, a.change.Ahead = p.text[from:to], ahead
	return a
}

// puts is the change that puts a text in the place of what lies from from up to to, and the cursor behind it.
func puts(from, to int, text string) answer {
	return answer{change: change.Change{Edit: api.Edit{At: from, Cut: to - from, Put: text}, Cursor: from + len(text)}}
}

// theKinds are the kinds that the chapter lists.
var theKinds = []api.CommandKind{14, 15, 16, 17, 18, 19, 20, 21, 24, 25, 26, 27, 28}

// makes answers what Of must answer.
func (p plain) makes(kind api.CommandKind, count, at, region int) answer {
	n := p.number(at)
	at = p.boundaries[n]
	if region >= 0 {
		region = p.boundaries[p.number(region)]
	}
	if count < 1 {
		count = 1
	}
	if count > 1000 {
		count = 1000
	}
	switch kind {
	case api.DoDeleteRight, api.DoKillWordRight, api.DoKillLineEnd, api.DoUpperWord, api.DoLowerWord, api.DoCapitalWord:
		if at == len(p.text) {
			return refused(8)
		}
		return p.makesToTheRight(kind, count, n)
	case api.DoDeleteLeft:
		if at == 0 {
			return refused(8)
		}
		return cuts(p.boundaries[max(n-count, 0)], at)
	case api.DoKillWordLeft:
		if at == 0 {
			return refused(8)
		}
		return p.kills(p.behinds(at, count), at, true)
	case api.DoKillLineStart:
		from := p.lines[p.line(at)].From
		if from == at {
			return refused(8)
		}
		return p.kills(from, at, true)
	case api.DoKillRegion, api.DoCopyRegion:
		return p.makesOfRegion(kind, at, region)
	case api.DoTransposeChars:
		return p.makesOfChars(n)
	case api.DoTransposeWords:
		return p.makesOfWords(at)
	}
	return refused(13)
}

// makesToTheRight has the kinds that go from the boundary number n to the right, where something is left there.
func (p plain) makesToTheRight(kind api.CommandKind, count, n int) answer {
	at := p.boundaries[n]
	to := p.aheads(at, count)
	switch kind {
	case api.DoDeleteRight:
		return cuts(at, p.boundaries[min(n+count, len(p.boundaries)-1)])
	case api.DoKillWordRight:
		return p.kills(at, to, false)
	case api.DoKillLineEnd:
		return p.kills(at, p.lineEnds(at, count), false)
	case api.DoUpperWord:
		return puts(at, to, word.Upper(p.text[at:to]))
	case api.DoLowerWord:
		return puts(at, to, word.Lower(p.text[at:to]))
	}
	return puts(at, to, word.Capital(p.text[at:to]))
}

// makesOfRegion has the kinds that go by the region.
func (p plain) makesOfRegion(kind api.CommandKind, at, region int) answer {
	if region < 0 {
		return refused(7)
	}
	if region == at {
		return refused(8)
	}
	a := p.kills(at, max(at, region), false)
	if region < at {
		a = p.kills(region, at, true)
	}
	if kind == api.DoCopyRegion {
		return answer{change: change.Change{Cursor: at, Kill: a.change.Kill}}
	}
	return a
}

// makesOfChars has DoTransposeChars at the boundary number n, by the list of the boundaries of its line.
func (p plain) makesOfChars(n int) answer {
	line := p.lines[p.line(p.boundaries[n])]
	var own []int
	place := 0
	for i, b := range p.boundaries {
		if line.From <= b && b <= line.To {
			if i == n {
				place = len(own)
			}
			own = append(own, b)
		}
	}
	if place == len(own)-1 {
		place--
	}
	if place < 1 {
		return refused(8)
	}
	a, b := p.text[own[place-1]:own[place]], p.text[own[place]:own[place+1]]
	return puts(own[place-1], own[place+1], b+a)
}

// makesOfWords has DoTransposeWords, by the list of all words.
func (p plain) makesOfWords(at int) answer {
	if len(p.words) < 2 {
		return refused(8)
	}
	w := len(p.words) - 1
	for n := w; n >= 0; n-- {
		if p.words[n].From >= at {
			w = n
		}
	}
	if w == 0 {
		w = 1
	}
	first, second := p.words[w-1], p.words[w]
	return puts(first.From, second.To, p.text[second.From:second.To]+p.text[first.To:second.From]+p.text[first.From:first.To])
}
