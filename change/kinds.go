package change

import (
	"bodkin/api"
	"bodkin/cluster"
	"bodkin/word"
)

// none is the region where there is no mark for it.
const none = -1

// scene is what a change is made of: the cursor and the region are boundaries of the text, and the count is within its limits.
type scene struct {
	text       string
	at, region int
	count      int
}

// maker makes the change of a kind.
type maker func(s scene) (Change, api.Errno)

// step leads from a boundary of a text to another one; only where it can lead no further does it stay.
type step func(text string, at int) int

// kind is a row of the table of kinds.
type kind struct {
	of    api.CommandKind
	makes maker
}

// kinds is the table of the kinds that change a text.
func kinds() [13]kind {
	return [13]kind{
		{api.DoDeleteRight, deleting(cluster.Next)},
		{api.DoDeleteLeft, deleting(cluster.Prev)},
		{api.DoKillWordRight, killing(word.Ahead)},
		{api.DoKillWordLeft, killing(word.Behind)},
		{api.DoKillLineEnd, killing(lineAhead)},
		{api.DoKillLineStart, killLineStart},
		{api.DoKillRegion, killRegion},
		{api.DoCopyRegion, copyRegion},
		{api.DoTransposeChars, transposeChars},
		{api.DoTransposeWords, transposeWords},
		{api.DoUpperWord, writing(word.Upper)},
		{api.DoLowerWord, writing(word.Lower)},
		{api.DoCapitalWord, writing(word.Capital)},
	}
}

// makerOf answers what makes the change of that kind, and whether there is one.
func makerOf(k api.CommandKind) (maker, bool) {
	for _, row := range kinds() {
		if row.of == k {
			return row.makes, true
		}
	}
	return nil, false
}

// times answers the step that leads where count of the steps lead.
func times(count int, one step) step {
	return func(text string, at int) int {
		for range count {
			at = one(text, at)
		}
		return at
	}
}

// deleting answers the maker of changes that cut what count steps lead over.
func deleting(one step) maker {
	return func(s scene) (Change, api.Errno) {
		return s.cutTo(times(s.count, one)(s.text, s.at))
	}
}

// killing answers the maker of changes that kill what count steps lead over.
func killing(one step) maker {
	return func(s scene) (Change, api.Errno) {
		return s.killTo(times(s.count, one)(s.text, s.at))
	}
}

// writing answers the maker of changes that write in another form what lies up to the end of the word that the count tells.
func writing(form func(string) string) maker {
	return func(s scene) (Change, api.Errno) {
		to := times(s.count, word.Ahead)(s.text, s.at)
		if to == s.at {
			return Change{}, api.ErrEdge
		}
		return put(s.at, to, form(s.text[s.at:to])), api.OK
	}
}

func killLineStart(s scene) (Change, api.Errno) {
	return s.killTo(lineStart(s.text, s.at))
}

func killRegion(s scene) (Change, api.Errno) {
	if s.region == none {
		return Change{}, api.ErrNoMark
	}
	return s.killTo(s.region)
}

func copyRegion(s scene) (Change, api.Errno) {
	killed, e := killRegion(s)
	if e != api.OK {
		return Change{}, e
	}
	return Change{Cursor: s.at, Kill: killed.Kill}, api.OK
}

func transposeChars(s scene) (Change, api.Errno) {
	middle := s.at
	if middle == lineEnd(s.text, s.at) {
		middle = cluster.Prev(s.text, middle)
	}
	// In a line of no clusters the middle lies in the line ahead, if there is one.
	if middle <= lineStart(s.text, s.at) {
		return Change{}, api.ErrEdge
	}
	a := api.Span{From: cluster.Prev(s.text, middle), To: middle}
	b := api.Span{From: middle, To: cluster.Next(s.text, middle)}
	return s.swap(a, b), api.OK
}

func transposeWords(s scene) (Change, api.Errno) {
	words := wordsAbout(s.text, s.at)
	if len(words) < 2 {
		return Change{}, api.ErrEdge
	}
	w := 1
	for w < len(words)-1 && words[w].From < s.at {
		w++
	}
	return s.swap(words[w-1], words[w]), api.OK
}
