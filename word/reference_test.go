package word_test

import (
	"strconv"
	"strings"
	"unicode/utf8"

	"bodkin/api"
	"bodkin/cluster"
	"bodkin/unit"
	"bodkin/width"
)

// This file tells words and cases by the chapter's own words, with its ranges as they are written there: the other tests hold the package against it.

const leftOutTable = "AB B4, B6 B9, BB BF, D7 D7, F7 F7, 2000 200B, 200E 206F, 2E00 2E7F, 3000 3004, 3008 3020, 3030 3030, FE30 FE6F, FF01 FF0F, FF1A FF20"

// ranges reads a table of first and last characters in base sixteen.
func ranges(table string) []api.Range {
	var list []api.Range
	for _, row := range strings.Split(table, ", ") {
		first, last, _ := strings.Cut(row, " ")
		list = append(list, api.Range{First: hex(first), Last: hex(last)})
	}
	return list
}

func hex(digits string) rune {
	n, err := strconv.ParseInt(digits, 16, 32)
	if err != nil {
		panic(err)
	}
	return rune(n)
}

// reference is the table of what is no word character, read, and the pairs one by one.
type reference struct {
	leftOut      []api.Range
	upper, lower map[rune]rune
}

func newReference() reference {
	r := reference{leftOut: ranges(leftOutTable), upper: map[rune]rune{}, lower: map[rune]rune{}}
	r.pair('a', 'z', 32)
	r.pair(0xE0, 0xF6, 32)
	r.pair(0xF8, 0xFE, 32)
	r.add(0xFF, 0x178)
	for c := rune(0x101); c <= 0x137; c++ {
		if c%2 == 1 && c != 0x131 {
			r.add(c, c-1)
		}
	}
	for c := rune(0x14B); c <= 0x177; c++ {
		if c%2 == 1 {
			r.add(c, c-1)
		}
	}
	r.pair(0x3B1, 0x3C1, 32)
	r.pair(0x3C3, 0x3C9, 32)
	r.pair(0x430, 0x44F, 32)
	r.pair(0x450, 0x45F, 80)
	for c := rune(0x461); c <= 0x481; c++ {
		if c%2 == 1 {
			r.add(c, c-1)
		}
	}
	return r
}

// pair adds the small letters from first to last, each with the one that stands down below it.
func (r reference) pair(first, last, down rune) {
	for c := first; c <= last; c++ {
		r.add(c, c-down)
	}
}

func (r reference) add(small, large rune) {
	r.upper[small], r.lower[large] = large, small
}

func (r reference) upperOf(c rune) rune {
	if large, ok := r.upper[c]; ok {
		return large
	}
	return c
}

func (r reference) lowerOf(c rune) rune {
	if small, ok := r.lower[c]; ok {
		return small
	}
	return c
}

// isWord goes by the list of what is a word character, and leaves out the ranges one by one.
func (r reference) isWord(c rune) bool {
	if strings.ContainsRune("0123456789ABCDEFGHIJKLMNOPQRSTUVWXYZabcdefghijklmnopqrstuvwxyz_", c) && utf8.ValidRune(c) {
		return true
	}
	if c < 0xAA {
		return false
	}
	k := width.Class(c)
	if k != api.ClassMark && k != api.ClassWide && k != api.ClassPlain {
		return false
	}
	for _, x := range r.leftOut {
		if x.First <= c && c <= x.Last {
			return false
		}
	}
	return true
}

// spans marks every byte of every word cluster, and answers the runs of marked bytes.
func (r reference) spans(text string) []api.Span {
	marked := make([]bool, len(text)+1)
	for _, c := range cluster.List(text) {
		if r.isWord(unit.Units(text[c.At:c.To])[0].Char) {
			for at := c.At; at < c.To; at++ {
				marked[at] = true
			}
		}
	}
	var list []api.Span
	from := -1
	for at, is := range marked {
		if is && from < 0 {
			from = at
		}
		if !is && from >= 0 {
			list = append(list, api.Span{From: from, To: at})
			from = -1
		}
	}
	return list
}

// ahead goes through the words of text, which are handed in so that they are found once.
func ahead(text string, words []api.Span, at int) int {
	at = counted(text, at)
	for _, w := range words {
		if w.To > at {
			return w.To
		}
	}
	return len(text)
}

func behind(text string, words []api.Span, at int) int {
	at = counted(text, at)
	found := 0
	for _, w := range words {
		if w.From < at {
			found = w.From
		}
	}
	return found
}

func counted(text string, at int) int {
	if at < 0 {
		return 0
	}
	if at > len(text) {
		return len(text)
	}
	return at
}

// write writes the units of text one by one, each as form answers it.
func write(text string, form func(at int, c rune) rune) string {
	var out []byte
	at := 0
	for _, u := range unit.Units(text) {
		if u.Char == -1 {
			out = append(out, text[at])
		} else {
			out = append(out, string([]rune{form(at, u.Char)})...)
		}
		at += u.Size
	}
	return string(out)
}

func (r reference) upperText(text string) string {
	return write(text, func(_ int, c rune) rune { return r.upperOf(c) })
}

func (r reference) lowerText(text string) string {
	return write(text, func(_ int, c rune) rune { return r.lowerOf(c) })
}

func (r reference) capitalText(text string, words []api.Span) string {
	return write(text, func(at int, c rune) rune {
		for _, w := range words {
			if w.From == at {
				return r.upperOf(c)
			}
		}
		return r.lowerOf(c)
	})
}
