// Package unit is layer 1, bytes as units: see shared/doc/01-unit.md.
package unit

import (
	"iter"
	"unicode/utf8"

	"bodkin/api"
)

// Units lists the units of s, in order.
func Units(s string) []api.Unit {
	list := make([]api.Unit, 0, Count(s))
	for _, u := range Walk(s) {
		list = append(list, u)
	}
	return list
}

// Walk yields the units of s, in order, each with the offset at which it begins.
func Walk(s string) iter.Seq2[int, api.Unit] {
	return func(yield func(int, api.Unit) bool) {
		// The offset is the call's own, so that a walk may be begun again, and within itself.
		for i := 0; i < len(s); {
			u := read(s, i)
			if !yield(i, u) {
				return
			}
			i += u.Size
		}
	}
}

// At answers the unit that begins at i, and whether there is one.
func At(s string, i int) (api.Unit, bool) {
	if i >= len(s) || !Boundary(s, i) {
		return api.Unit{}, false
	}
	return read(s, i), true
}

// Count answers the number of the units of s.
func Count(s string) int {
	n := 0
	for range Walk(s) {
		n++
	}
	return n
}

// Boundary answers whether i is a boundary of s.
func Boundary(s string, i int) bool {
	// Down answers 0 or the length of s where i is outside, which isn't i then.
	return Down(s, i) == i
}

// Down answers the greatest boundary that is not above i, or 0.
func Down(s string, i int) int {
	if i <= 0 {
		return 0
	}
	if i >= len(s) {
		return len(s)
	}
	// Encodings never overlap, so an encoding that reaches over i is a unit, and it can't begin further ahead than its own length.
	for at := i - 1; at >= 0 && at > i-utf8.UTFMax; at-- {
		if at+read(s, at).Size > i {
			return at
		}
	}
	return i
}

// Up answers the least boundary that is not below i, or the length of s.
func Up(s string, i int) int {
	if Boundary(s, i) {
		return i
	}
	return Next(s, i)
}

// Next answers the least boundary above i, or the length of s.
func Next(s string, i int) int {
	if i < 0 {
		return 0
	}
	if i >= len(s) {
		return len(s)
	}
	at := Down(s, i)
	return at + read(s, at).Size
}

// Prev answers the greatest boundary below i, or 0.
func Prev(s string, i int) int {
	// Asked first, because there is no number below the least int.
	if i <= 0 {
		return 0
	}
	return Down(s, i-1)
}

// Encode answers the encodings of those among chars that are characters.
func Encode(chars ...rune) string {
	var out []byte
	for _, c := range chars {
		// AppendRune would put U+FFFD in the place of what is no character.
		if utf8.ValidRune(c) {
			out = utf8.AppendRune(out, c)
		}
	}
	return string(out)
}

// Begun answers whether s is the beginning of a character's encoding, but not all of it.
func Begun(s string) bool {
	// The library calls the empty text not full too; bytes that can become no character count as full there.
	return s != "" && !utf8.FullRuneInString(s)
}

// read answers the unit that begins at i, which is below the length of s.
func read(s string, i int) api.Unit {
	c, size := utf8.DecodeRuneInString(s[i:])
	// U+FFFD itself is a character, and told from a bad byte by its three bytes alone.
	if c == utf8.RuneError && size == 1 {
		return api.Unit{Char: -1, Size: 1}
	}
	return api.Unit{Char: c, Size: size}
}
