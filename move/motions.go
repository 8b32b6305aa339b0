package move

import (
	"bodkin/api"
	"bodkin/lines"
	"bodkin/store"
	"bodkin/word"
)

// motion is a row of the table of motions.
type motion struct {
	kind api.CommandKind
	// leads answers where as many of count steps as can be done lead from the boundary at, and whether the first one can be done.
	// It has all steps at once, as some motions needn't make them one by one.
	leads func(s *store.Store, at, goal, count int) (int, bool)
	// keeps tells a motion that goes by a column, which the next one of its like may go by as well.
	keeps bool
}

// motions is the table of motions.
func motions() [10]motion {
	return [10]motion{
		{kind: api.DoLeft, leads: left},
		{kind: api.DoRight, leads: right},
		{kind: api.DoWordLeft, leads: wordLeft},
		{kind: api.DoWordRight, leads: wordRight},
		{kind: api.DoLineStart, leads: lineStart},
		{kind: api.DoLineEnd, leads: lineEnd},
		{kind: api.DoUp, leads: up, keeps: true},
		{kind: api.DoDown, leads: down, keeps: true},
		{kind: api.DoTextStart, leads: textStart},
		{kind: api.DoTextEnd, leads: textEnd},
	}
}

// motionOf answers the motion of that kind, and whether there is one.
func motionOf(kind api.CommandKind) (motion, bool) {
	for _, m := range motions() {
		if m.kind == kind {
			return m, true
		}
	}
	return motion{}, false
}

// The functions of the table: each is handed a boundary, and goes by the goal and the count only if its motion does.

func left(s *store.Store, at, _, count int) (int, bool) {
	return stepped(at, 0, count, s.Prev)
}

func right(s *store.Store, at, _, count int) (int, bool) {
	return stepped(at, s.Len(), count, s.Next)
}

func wordLeft(s *store.Store, at, _, count int) (int, bool) {
	return stepped(at, 0, count, func(at int) int { return behind(s, at) })
}

func wordRight(s *store.Store, at, _, count int) (int, bool) {
	return stepped(at, s.Len(), count, func(at int) int { return ahead(s, at) })
}

func lineStart(s *store.Store, at, _, _ int) (int, bool) {
	return lineOf(s, at).From, true
}

func lineEnd(s *store.Store, at, _, _ int) (int, bool) {
	return lineOf(s, at).To, true
}

func up(s *store.Store, at, goal, count int) (int, bool) {
	return linesAway(s, at, goal, -count)
}

func down(s *store.Store, at, goal, count int) (int, bool) {
	return linesAway(s, at, goal, count)
}

func textStart(*store.Store, int, int, int) (int, bool) {
	return 0, true
}

func textEnd(s *store.Store, _, _, _ int) (int, bool) {
	return s.Len(), true
}

// stepped answers where up to count steps from at lead, none of them beyond edge, and whether at is not there already.
func stepped(at, edge, count int, step func(int) int) (int, bool) {
	begun := at
	for range count {
		if at == edge {
			break
		}
		at = step(at)
	}
	return at, begun != edge
}

// lineOf answers the span of the line of the boundary at.
func lineOf(s *store.Store, at int) api.Span {
	line, _ := lines.Of(s, at)
	span, _ := lines.Span(s, line)
	return span
}

// linesAway answers the place at the column goal of the line that is so many lines behind the one of at (ahead of it, if away is below 0), or of the last line that way, and whether there is any.
// All steps go by one column: so the lines between make no difference.
func linesAway(s *store.Store, at, goal, away int) (int, bool) {
	line, _ := lines.Of(s, at)
	held := heldLine(s, line+away)
	to, _ := lines.At(s, held, goal)
	return to, held != line
}

// firstReach is how far from a boundary a word's end is looked for at first: most words are far shorter.
const firstReach = 64

// ahead answers the end of the first word that ends above the boundary at, or the text's length. It reads no more of the text than it must.
func ahead(s *store.Store, at int) int {
	for reach := firstReach; ; reach *= 2 {
		// A piece from boundary to boundary has the clusters that the text has there.
		to := s.Snap(at + reach)
		piece, _ := s.Slice(at, to)
		end := at + word.Ahead(piece, 0)
		// At the piece's end the word may go on, or not have begun.
		if end < to || to == s.Len() {
			return end
		}
	}
}

// behind answers the beginning of the last word that begins below the boundary at, or 0. It reads no more of the text than it must.
func behind(s *store.Store, at int) int {
	for reach := firstReach; ; reach *= 2 {
		from := s.Snap(at - reach)
		piece, _ := s.Slice(from, at)
		begin := from + word.Behind(piece, len(piece))
		if begin > from || from == 0 {
			return begin
		}
	}
}
