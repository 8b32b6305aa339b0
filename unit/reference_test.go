package unit_test

import "bodkin/api"

// This file cuts texts by the chapter's own words, bit by bit and from the left, and shares nothing with the package or the library: the other tests hold the package against it.

// character tells whether n is a character.
func character(n int) bool {
	return n >= 0 && n <= 0x10FFFF && (n < 0xD800 || n > 0xDFFF)
}

// encoding is the table's encoding of a character.
func encoding(n int) string {
	low := func(shift int) byte { return byte(0x80 | n>>shift&0x3F) }
	switch {
	case n <= 0x7F:
		return string([]byte{byte(n)})
	case n <= 0x7FF:
		return string([]byte{byte(0xC0 | n>>6), low(0)})
	case n <= 0xFFFF:
		return string([]byte{byte(0xE0 | n>>12), low(6), low(0)})
	}
	return string([]byte{byte(0xF0 | n>>18), low(12), low(6), low(0)})
}

// shape is the length that a first byte's bits tell, 0 of a byte that begins nothing, and the number's bits that it holds.
func shape(b byte) (size, bits int) {
	switch {
	case b>>7 == 0:
		return 1, int(b)
	case b>>5 == 6:
		return 2, int(b & 0x1F)
	case b>>4 == 14:
		return 3, int(b & 0x0F)
	case b>>3 == 30:
		return 4, int(b & 0x07)
	}
	return 0, 0
}

// first is the unit at the beginning of s, which isn't empty.
func first(s string) api.Unit {
	bad := api.Unit{Char: -1, Size: 1}
	size, n := shape(s[0])
	if size == 0 || size > len(s) {
		return bad
	}
	for k := 1; k < size; k++ {
		n = n<<6 | int(s[k]&0x3F)
	}
	if !character(n) || encoding(n) != s[:size] {
		return bad
	}
	return api.Unit{Char: rune(n), Size: size}
}

// cut is the units of s, and its boundaries.
func cut(s string) (units []api.Unit, boundaries []int) {
	at := 0
	for at < len(s) {
		u := first(s[at:])
		units, boundaries = append(units, u), append(boundaries, at)
		at += u.Size
	}
	return units, append(boundaries, at)
}

// places are the answers for one offset.
type places struct {
	unit                 api.Unit
	at, boundary         bool
	down, up, next, prev int
}

// placesOf reckons the answers for i by going through all boundaries.
func placesOf(s string, units []api.Unit, boundaries []int, i int) places {
	p := places{up: len(s), next: len(s)}
	for k, b := range boundaries {
		if b == i {
			p.boundary = true
			if k < len(units) {
				p.unit, p.at = units[k], true
			}
		}
		if b <= i {
			p.down = b
		}
		if b < i {
			p.prev = b
		}
	}
	for k := len(boundaries) - 1; k >= 0; k-- {
		if b := boundaries[k]; b >= i {
			p.up = b
		}
		if b := boundaries[k]; b > i {
			p.next = b
		}
	}
	return p
}
