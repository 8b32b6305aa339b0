package screen

import (
	"bodkin/api"
	"bodkin/unit"
	"bodkin/width"
)

// esc is the byte ESC.
const esc = 0x1B

// replacement is written for what can't be shown.
const replacement = "\uFFFD"

// sequence is one that has begun, as far as it has come.
type sequence struct {
	// size is the number of its bytes: 0 if there is none, 1 behind ESC, 2 or more behind ESC [.
	size int
	// numbers are those of its inside; which is the one that is being read.
	numbers [2]int
	which   int
	// odd tells that its inside is neither one number nor two.
	odd bool
}

// take reads b behind what is held back.
func (s *Screen) take(b byte) {
	switch {
	case b == esc:
		// Wherever it comes, a sequence begins here, and one ahead of it is gone.
		s.breakOff()
		s.last = written{}
		s.sequence = sequence{size: 1}
	case s.sequence.size == 1:
		s.takeBehindEsc(b)
	case s.sequence.size > 1:
		s.takeIntoSequence(b)
	case b < 0x20 || b == 0x7F:
		s.breakOff()
		s.control(b)
	default:
		s.takeIntoUnit(b)
	}
}

// takeBehindEsc reads the byte behind ESC.
func (s *Screen) takeBehindEsc(b byte) {
	s.sequence = sequence{}
	if b == '[' {
		s.sequence.size = len("\x1b[")
	}
}

// takeIntoSequence reads a byte behind ESC [ that is no ESC.
func (s *Screen) takeIntoSequence(b byte) {
	if 0x20 <= b && b <= 0x3F {
		s.sequence.inside(b)
		return
	}
	q := s.sequence
	s.sequence = sequence{}
	if 0x40 <= b && b <= 0x7E {
		s.carryOut(q, b)
		return
	}
	s.take(b)
}

// inside reads a byte of the sequence's inside.
func (q *sequence) inside(b byte) {
	q.size++
	switch {
	case '0' <= b && b <= '9':
		// No row and no column is beyond MostWidth, so a greater number needn't be known.
		q.numbers[q.which] = min(q.numbers[q.which]*10+int(b-'0'), api.MostWidth)
	case b == ';' && q.which == 0:
		q.which = 1
	default:
		q.odd = true
	}
}

// takeIntoUnit reads a byte that begins a unit, or goes on with the one that is begun.
func (s *Screen) takeIntoUnit(b byte) {
	text := s.begun + string([]byte{b})
	if unit.Begun(text) {
		s.begun = text
		return
	}
	u, _ := unit.At(text, 0)
	if u.Size < len(text) {
		// With b the bytes that are held back are no character's: b is read anew behind them.
		s.breakOff()
		s.take(b)
		return
	}
	s.begun = ""
	s.unit(u.Char, text)
}

// breakOff writes the bytes of a unit that was only begun: none of them is a character's.
func (s *Screen) breakOff() {
	n := len(s.begun)
	s.begun = ""
	for range n {
		s.write(replacement, 1)
	}
}

// unit does what a unit says that is no control below 0x80.
func (s *Screen) unit(c rune, text string) {
	switch width.Class(c) {
	case api.ClassControl:
		s.full = false
		s.last = written{}
	case api.ClassMark:
		s.mark(text)
	case api.ClassBad:
		s.write(replacement, 1)
	case api.ClassWide:
		s.writeWide(text)
	default:
		s.write(text, 1)
	}
}
