package width_test

import (
	"strconv"
	"strings"

	"bodkin/api"
)

// This file keeps the chapter's tables as they are written there, and finds a character's class by going through them from the left: the other tests hold the package against it.

const markTable = "300 36F, 483 489, 591 5BD, 5BF 5BF, 5C1 5C2, 610 61A, 64B 65F, 670 670, 6D6 6DC, 900 902, 93C 93C, 94D 94D, E31 E31, E34 E3A, E47 E4E, 135D 135F, 1AB0 1AFF, 1DC0 1DFF, 200C 200D, 20D0 20FF, 302A 302F, 3099 309A, FE00 FE0F, FE20 FE2F, 1F3FB 1F3FF, E0100 E01EF"

const wideTable = "1100 115F, 231A 231B, 2329 232A, 23E9 23EC, 25FD 25FE, 2614 2615, 2648 2653, 26AA 26AB, 2E80 3029, 3030 303E, 3041 3098, 309B 4DBF, 4E00 A4CF, A960 A97F, AC00 D7A3, F900 FAFF, FE30 FE6F, FF01 FF60, FFE0 FFE6, 16FE0 18AFF, 1B000 1B2FF, 1F300 1F3FA, 1F400 1F64F, 1F680 1F6FF, 1F900 1F9FF, 20000 2FFFD, 30000 3FFFD"

// ranges reads a table of first and last characters in base sixteen.
func ranges(table string) []api.Range {
	var list []api.Range
	for _, row := range strings.Split(table, ", ") {
		first, last, _ := strings.Cut(row, " ")
		list = append(list, api.Range{First: hex(first), Last: hex(last)})
	}
	return list
}

func hex(digits string) rune {
	n, err := strconv.ParseInt(digits, 16, 32)
	if err != nil {
		panic(err)
	}
	return rune(n)
}

// reference is the tables, read.
type reference struct {
	marks, wide []api.Range
}

func newReference() reference {
	return reference{marks: ranges(markTable), wide: ranges(wideTable)}
}

func in(list []api.Range, c rune) bool {
	for _, r := range list {
		if r.First <= c && c <= r.Last {
			return true
		}
	}
	return false
}

// look is the class of c and its cells, by the first row of the table of classes that fits.
func (r reference) look(c rune) (api.Class, int) {
	if c < 0 || c > 0x10FFFF || 0xD800 <= c && c <= 0xDFFF {
		return api.ClassBad, 1
	}
	if c == 0x0A {
		return api.ClassNewline, 0
	}
	if c <= 0x1F || c == 0x7F {
		return api.ClassControl, 2
	}
	if 0x80 <= c && c <= 0x9F {
		return api.ClassControl, 1
	}
	if in(r.marks, c) {
		return api.ClassMark, 1
	}
	if in(r.wide, c) {
		return api.ClassWide, 2
	}
	return api.ClassPlain, 1
}
