package change

import (
	"strings"

	"bodkin/api"
	"bodkin/cluster"
	"bodkin/word"
)

// cutTo answers the change that cuts what lies between the cursor and to.
func (s scene) cutTo(to int) (Change, api.Errno) {
	if to == s.at {
		return Change{}, api.ErrEdge
	}
	return put(min(s.at, to), max(s.at, to), ""), api.OK
}

// killTo answers the change that kills what lies between the cursor and to.
func (s scene) killTo(to int) (Change, api.Errno) {
	c, e := s.cutTo(to)
	if e != api.OK {
		return Change{}, e
	}
	// A copy, as a few bytes would keep the whole text in memory.
	c.Kill = strings.Clone(s.text[c.Edit.At : c.Edit.At+c.Edit.Cut])
	c.Ahead = to < s.at
	return c, api.OK
}

// swap answers the change that puts the piece b in the place of the piece a ahead of it, and a in the place of b.
func (s scene) swap(a, b api.Span) Change {
	return put(a.From, b.To, s.text[b.From:b.To]+s.text[a.To:b.From]+s.text[a.From:a.To])
}

// put answers the change that puts text in the place of what lies from from up to to, with the cursor behind it.
func put(from, to int, text string) Change {
	return Change{Edit: api.Edit{At: from, Cut: to - from, Put: text}, Cursor: from + len(text)}
}

// lineStart answers the beginning of the line of the boundary at.
func lineStart(text string, at int) int {
	// A newline of either kind ends with a LF, and no other character has that byte.
	return strings.LastIndexByte(text[:at], '\n') + 1
}

// lineEnd answers the end of the line of the boundary at.
func lineEnd(text string, at int) int {
	n := strings.IndexByte(text[at:], '\n')
	if n < 0 {
		return len(text)
	}
	// The LF may be the second half of its newline.
	return cluster.Prev(text, at+n+1)
}

// lineAhead answers the end of the line of the boundary at, or, if that is at itself, the place behind its newline.
func lineAhead(text string, at int) int {
	if end := lineEnd(text, at); end != at {
		return end
	}
	return cluster.Next(text, at)
}

// wordsAbout lists the words of text from the second last that begins ahead of at up to the second that ends behind it, as far as there are so many.
// The two words that are swapped at at are never further away, so that the rest of the text needn't be read.
func wordsAbout(text string, at int) []api.Span {
	from, to := times(2, word.Behind)(text, at), times(2, word.Ahead)(text, at)
	words := word.Spans(text[from:to])
	for n := range words {
		words[n].From += from
		words[n].To += from
	}
	return words
}
