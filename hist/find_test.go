package hist_test

import (
	"math"
	"strconv"
	"strings"
	"testing"

	"bodkin/api"
	"bodkin/hist"
)

// found holds what Find answers against what is wanted.
func found(t *testing.T, h *hist.History, part string, below, number, at int, e api.Errno) {
	t.Helper()
	if gotNumber, gotAt, gotE := h.Find(part, below); gotNumber != number || gotAt != at || gotE != e {
		t.Errorf("P14.5: Find(%.40q, %d): %d, %d, %v, want %d, %d, %v", part, below, gotNumber, gotAt, gotE, number, at, e)
	}
}

// filled answers a history of these lines.
func filled(lines ...string) *hist.History {
	h := hist.New(len(lines))
	for _, line := range lines {
		h.Add(line)
	}
	return h
}

// short lists all texts of a and b of up to so many bytes, the empty one too.
func short(most int) []string {
	list := []string{""}
	for begun := 0; most > 0; most-- {
		for many := len(list); begun < many; begun++ {
			list = append(list, list[begun]+"a", list[begun]+"b")
		}
	}
	return list
}

// TestFindEverywhere has every short part, below every number, in histories of short lines.
func TestFindEverywhere(t *testing.T) {
	lines, parts := short(5)[1:], short(3)
	belows := []int{math.MinInt, math.MinInt + 1, -1, 0, 1, 2, 3, 4, 5, 6, math.MaxInt}
	for n := range lines {
		x := newPair(t, 5)
		x.do(t, add("ab"), add("bbab"), add(lines[n]), add("bb"), add(lines[(n*7+3)%len(lines)]))
		x.do(t, back("aab"), back("ba"))
		for _, part := range parts {
			for _, below := range belows {
				x.do(t, find(part, below))
			}
		}
		x.walk(t)
	}
}

func TestFindBelow(t *testing.T) {
	h := filled("ab", "x", "cab", "y")
	for below, want := range map[int]int{1: 0, 2: 0, 3: 2, 4: 2, 5: 2, 1000: 2, 1 << 32: 2, math.MaxInt: 2} {
		found(t, h, "ab", below, want, want/2, api.OK)
	}
	for _, below := range []int{0, -1, -2, -4, -1 << 32, math.MinInt} {
		found(t, h, "ab", below, 0, 0, api.ErrNotFound)
	}
	found(t, h, "y", 4, 3, 0, api.OK)
	found(t, h, "y", 3, 0, 0, api.ErrNotFound)
	found(t, h, "x", 2, 1, 0, api.OK)
	found(t, h, "x", 1, 0, 0, api.ErrNotFound)
	found(t, h, "z", 4, 0, 0, api.ErrNotFound)
	hold(t, "P14.5: Find changes nothing", h, 4, 0, "ab x cab y")
}

func TestFindParts(t *testing.T) {
	for _, c := range []struct {
		line, part string
		at         int
	}{
		{"a", "a", 0},
		{"aaaa", "a", 3},
		{"aaaa", "aa", 2},
		{"aaaa", "aaa", 1},
		{"aaaa", "aaaa", 0},
		{"abababa", "aba", 4},
		{"ab ab ", "ab", 3},
		{"abcab", "abc", 0},
		{"e\xcc\x81", "\xcc", 1},
		{"\u4e00\u4e00", "\x80\xe4", 2},
		{"\u4e00\u4e00", "\xb8", 4},
		{"\xff\xff", "\xff", 1},
		{"\x00a\x00", "\x00", 2},
		{"a\r\nb\r\n", "\n", 5},
		{strings.Repeat("ab", 1<<16), "aba", 1<<17 - 4},
		{strings.Repeat("a", 1<<16) + "b", "b", 1 << 16},
		{strings.Repeat("a", 1<<16) + "b", strings.Repeat("a", 1<<15), 1 << 15},
		{"b" + strings.Repeat("a", 1<<16), "b" + strings.Repeat("a", 1<<16), 0},
	} {
		h := filled("first", c.line, "Z")
		found(t, h, c.part, 3, 1, c.at, api.OK)
		found(t, h, c.part, 2, 1, c.at, api.OK)
	}
	for _, c := range []struct{ line, part string }{
		{"a", "aa"}, {"a", "A"}, {"A", "a"}, {"ab", "ba"}, {"\u00e9", "e"}, {"e\xcc\x81", "\u00e9"}, {"a", "a\x00"}, {"a\nb", "a b"},
		{strings.Repeat("a", 99), strings.Repeat("a", 100)},
	} {
		found(t, filled(c.line), c.part, 1, 0, 0, api.ErrNotFound)
	}
}

// TestFindAcross: a part isn't found over the end of one entry and the beginning of the next.
func TestFindAcross(t *testing.T) {
	found(t, filled("ab", "cd"), "bc", 2, 0, 0, api.ErrNotFound)
	found(t, filled("cd", "ab"), "bc", 2, 0, 0, api.ErrNotFound)
}

func TestFindNothing(t *testing.T) {
	for place := range 4 {
		h := walked(t, 5, place)
		for _, below := range []int{math.MinInt, -1, 0, 1, 3, 4, math.MaxInt} {
			found(t, h, "", below, 0, 0, api.ErrNotFound)
		}
		hold(t, "P14.5: Find changes nothing", h, place, 2, "a b c")
	}
	for _, h := range []*hist.History{hist.New(3), hist.New(0), {}, nil} {
		for _, below := range []int{math.MinInt, -1, 0, 1, math.MaxInt} {
			found(t, h, "", below, 0, 0, api.ErrNotFound)
			found(t, h, "a", below, 0, 0, api.ErrNotFound)
		}
	}
}

// TestFindPassesDraftsOver: an entry is found though its draft has the part no more, and a draft isn't found.
func TestFindPassesDraftsOver(t *testing.T) {
	for place := range 4 {
		h := walked(t, 5, place)
		found(t, h, "C", 9, 0, 0, api.ErrNotFound)
		found(t, h, "typed", 9, 0, 0, api.ErrNotFound)
		found(t, h, "c", 9, 2, 0, api.OK)
		hold(t, "P14.5: Find changes nothing", h, place, 2, "a b c")
		if place != 2 {
			says(t, "P14.5: Find changes no draft", "C", api.OK)(h.Go(2, "x"))
		}
	}
	// An older entry isn't passed over for a draft of a newer one, and the offset is the entry's.
	h := filled("xxab", "b")
	h.Back("ab")
	h.Back("ab")
	h.Forward("ab")
	found(t, h, "ab", 2, 0, 2, api.OK)
	found(t, h, "b", 2, 1, 0, api.OK)
}

// TestFindInMany has as many entries as there may be, and one that is there no more.
func TestFindInMany(t *testing.T) {
	h := hist.New(1000)
	for n := range 1003 {
		h.Add("line " + strconv.Itoa(n) + ".")
	}
	found(t, h, " 1002.", 1000, 999, 4, api.OK)
	found(t, h, " 1002.", 999, 0, 0, api.ErrNotFound)
	found(t, h, " 3.", 2000, 0, 4, api.OK)
	found(t, h, " 3.", 1, 0, 4, api.OK)
	found(t, h, " 2.", 1000, 0, 0, api.ErrNotFound)
	found(t, h, "0.", 1000, 997, 8, api.OK)
	found(t, h, "0.", 997, 987, 7, api.OK)
}
