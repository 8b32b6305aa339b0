package change_test

import (
	"math"
	"slices"
	"strings"
	"testing"

	"bodkin/api"
	"bodkin/change"
)

// This file has the edges that the chapter names, each with its answer written down.

// order is a command at a place of a text, and what Of answers to it.
type order struct {
	kind              api.CommandKind
	count, at, region int
	want              answer
}

// made is the answer beside OK, all of it.
func made(at, cut int, put string, cursor int, kill string, ahead bool) answer {
	return answer{change.Change{Edit: api.Edit{At: at, Cut: cut, Put: put}, Cursor: cursor, Kill: kill, Ahead: ahead}, api.OK}
}

// cutOut is the answer of what cuts without killing.
func cutOut(at, cut int) answer { return made(at, cut, "", at, "", false) }

// killed is the answer of what kills to the right.
func killed(at int, kill string) answer { return made(at, len(kill), "", at, kill, false) }

// killedBack is the answer of what kills to the left.
func killedBack(at int, kill string) answer { return made(at, len(kill), "", at, kill, true) }

// written is the answer of what puts a text in the place of one that is as long.
func written(at int, put string) answer { return made(at, len(put), put, at+len(put), "", false) }

// lookAtOrders holds Ofs of a text against what is written down.
func lookAtOrders(t *testing.T, text string, orders ...order) {
	t.Helper()
	for _, x := range orders {
		c, e := change.Of(api.Command{Kind: x.kind, Count: x.count}, text, x.at, x.region)
		if got := (answer{c, e}); got != x.want {
			t.Errorf("P17.3: Of(%d, count %d) of %.99q at %d, region %d: %.199v, want %.199v", x.kind, x.count, text, x.at, x.region, got, x.want)
		}
		if e == api.OK {
			lookAtChange(t, text, x.kind, c)
		}
	}
}

// otherKinds are kinds that change no text here.
func otherKinds() []api.CommandKind {
	list := []api.CommandKind{math.MinInt, -256 + api.DoDeleteRight, -14, -1, 41, 42, 99, 256 + api.DoDeleteRight, 1<<32 + api.DoDeleteRight, math.MaxInt}
	for kind := api.DoNothing; kind <= api.DoUnbound; kind++ {
		if !slices.Contains(theKinds, kind) {
			list = append(list, kind)
		}
	}
	return list
}

func TestKinds(t *testing.T) {
	for _, kind := range []api.CommandKind{
		api.DoDeleteRight, api.DoDeleteLeft, api.DoKillWordRight, api.DoKillWordLeft, api.DoKillLineEnd, api.DoKillLineStart, api.DoKillRegion, api.DoCopyRegion,
		api.DoTransposeChars, api.DoTransposeWords, api.DoUpperWord, api.DoLowerWord, api.DoCapitalWord,
	} {
		if !change.Does(kind) {
			t.Errorf("P17.1: Does(%d) is false", kind)
		}
	}
	for _, kind := range otherKinds() {
		if change.Does(kind) {
			t.Errorf("P17.1: Does(%d) is true", kind)
		}
		for _, text := range []string{"", "ab cd\nef", "\xff\r\n"} {
			for _, n := range []int{math.MinInt, -1, 0, 1, 4, 9, math.MaxInt} {
				if c, e := change.Of(api.Command{Kind: kind, Count: n}, text, n, n); c != (change.Change{}) || e != api.ErrKind {
					t.Errorf("P17.1: Of(%d) of %q at %d: %v, %v", kind, text, n, c, e)
				}
			}
		}
	}
}

// marked has a letter with its mark from 0 to 3, CR LF from 3 to 5, a wide one from 5 to 8, x from 8 to 9.
const marked = "e\u0301\r\n\u4e00x"

// TestPlacesThatCount has an at below 0, inside of clusters and of CR LF, at the length and above it.
func TestPlacesThatCount(t *testing.T) {
	lookAtOrders(t, marked,
		order{api.DoDeleteRight, 1, math.MinInt, -1, cutOut(0, 3)}, order{api.DoDeleteRight, 1, -1, -1, cutOut(0, 3)}, order{api.DoDeleteRight, 1, 0, -1, cutOut(0, 3)},
		order{api.DoDeleteRight, 1, 1, -1, cutOut(3, 2)}, order{api.DoDeleteRight, 1, 2, -1, cutOut(3, 2)}, order{api.DoDeleteRight, 1, 4, -1, cutOut(5, 3)}, order{api.DoDeleteRight, 1, 6, -1, cutOut(8, 1)},
		order{api.DoDeleteRight, 1, 9, -1, refused(api.ErrEdge)}, order{api.DoDeleteRight, 1, 10, -1, refused(api.ErrEdge)}, order{api.DoDeleteRight, 1, math.MaxInt, -1, refused(api.ErrEdge)},
		order{api.DoDeleteLeft, 1, math.MinInt, -1, refused(api.ErrEdge)}, order{api.DoDeleteLeft, 1, -1, -1, refused(api.ErrEdge)}, order{api.DoDeleteLeft, 1, 0, -1, refused(api.ErrEdge)},
		order{api.DoDeleteLeft, 1, 1, -1, cutOut(0, 3)}, order{api.DoDeleteLeft, 1, 4, -1, cutOut(3, 2)}, order{api.DoDeleteLeft, 1, 7, -1, cutOut(5, 3)},
		order{api.DoDeleteLeft, 1, 9, -1, cutOut(8, 1)}, order{api.DoDeleteLeft, 1, 10, -1, cutOut(8, 1)}, order{api.DoDeleteLeft, 1, math.MaxInt, -1, cutOut(8, 1)},
		order{api.DoKillWordRight, 1, -7, -1, killed(0, "e\u0301")}, order{api.DoKillWordRight, 1, 1, -1, killed(3, "\r\n\u4e00x")}, order{api.DoKillWordRight, 1, 6, -1, killed(8, "x")}, order{api.DoKillWordRight, 1, 99, -1, refused(api.ErrEdge)},
		order{api.DoKillWordLeft, 1, 2, -1, killedBack(0, "e\u0301")}, order{api.DoKillWordLeft, 1, 4, -1, killedBack(0, "e\u0301\r\n")}, order{api.DoKillWordLeft, 1, 6, -1, killedBack(5, "\u4e00")}, order{api.DoKillWordLeft, 1, 99, -1, killedBack(5, "\u4e00x")}, order{api.DoKillWordLeft, 1, -1, -1, refused(api.ErrEdge)},
		order{api.DoKillLineEnd, 1, 2, -1, killed(3, "\r\n")}, order{api.DoKillLineEnd, 1, 4, -1, killed(5, "\u4e00x")}, order{api.DoKillLineEnd, 1, 99, -1, refused(api.ErrEdge)},
		order{api.DoKillLineStart, 1, 1, -1, killedBack(0, "e\u0301")}, order{api.DoKillLineStart, 1, 4, -1, refused(api.ErrEdge)}, order{api.DoKillLineStart, 1, 7, -1, killedBack(5, "\u4e00")}, order{api.DoKillLineStart, 1, -1, -1, refused(api.ErrEdge)}, order{api.DoKillLineStart, 1, 99, -1, killedBack(5, "\u4e00x")},
		order{api.DoTransposeChars, 1, 7, -1, written(5, "x\u4e00")}, order{api.DoTransposeChars, 1, 99, -1, written(5, "x\u4e00")}, order{api.DoTransposeChars, 1, 4, -1, refused(api.ErrEdge)}, order{api.DoTransposeChars, 1, -1, -1, refused(api.ErrEdge)},
		order{api.DoTransposeWords, 1, 7, -1, written(0, "\u4e00x\r\ne\u0301")}, order{api.DoTransposeWords, 1, -9, -1, written(0, "\u4e00x\r\ne\u0301")}, order{api.DoTransposeWords, 1, 99, -1, written(0, "\u4e00x\r\ne\u0301")},
		order{api.DoUpperWord, 1, -1, -1, written(0, "E\u0301")}, order{api.DoUpperWord, 1, 1, -1, written(3, "\r\n\u4e00X")}, order{api.DoUpperWord, 1, 6, -1, written(8, "X")}, order{api.DoUpperWord, 1, 99, -1, refused(api.ErrEdge)},
	)
}

// TestRegions has a region below 0, inside of clusters, at the length and above it, at at itself, below it and above it.
func TestRegions(t *testing.T) {
	for _, kind := range []api.CommandKind{api.DoKillRegion, api.DoCopyRegion} {
		lookAtOrders(t, marked,
			// Where both errors apply, there is no mark.
			order{kind, 1, 0, -1, refused(api.ErrNoMark)}, order{kind, 1, 5, -1, refused(api.ErrNoMark)}, order{kind, 1, 9, -2, refused(api.ErrNoMark)}, order{kind, 1, -1, -1, refused(api.ErrNoMark)}, order{kind, 1, 5, math.MinInt, refused(api.ErrNoMark)}, order{kind, 1, math.MaxInt, math.MinInt, refused(api.ErrNoMark)},
			// Both are one.
			order{kind, 1, 0, 0, refused(api.ErrEdge)}, order{kind, 1, -3, 0, refused(api.ErrEdge)}, order{kind, 1, 5, 5, refused(api.ErrEdge)}, order{kind, 1, 5, 4, refused(api.ErrEdge)}, order{kind, 1, 4, 5, refused(api.ErrEdge)}, order{kind, 1, 4, 4, refused(api.ErrEdge)},
			order{kind, 1, 1, 3, refused(api.ErrEdge)}, order{kind, 1, 2, 1, refused(api.ErrEdge)}, order{kind, 1, 9, 9, refused(api.ErrEdge)}, order{kind, 1, 99, 9, refused(api.ErrEdge)}, order{kind, 1, 9, 99, refused(api.ErrEdge)}, order{kind, 1, 98, math.MaxInt, refused(api.ErrEdge)},
		)
	}
	lookAtOrders(t, marked,
		order{api.DoKillRegion, 1, 5, 0, killedBack(0, "e\u0301\r\n")}, order{api.DoKillRegion, 1, 5, 1, killedBack(3, "\r\n")}, order{api.DoKillRegion, 1, 4, 1, killedBack(3, "\r\n")}, order{api.DoKillRegion, 1, 9, 7, killedBack(8, "x")}, order{api.DoKillRegion, 1, math.MaxInt, 0, killedBack(0, marked)},
		order{api.DoKillRegion, 1, 0, 5, killed(0, "e\u0301\r\n")}, order{api.DoKillRegion, 1, 0, 4, killed(0, "e\u0301\r\n")}, order{api.DoKillRegion, 1, 1, 4, killed(3, "\r\n")}, order{api.DoKillRegion, 1, 6, 9, killed(8, "x")}, order{api.DoKillRegion, 1, 6, 10, killed(8, "x")}, order{api.DoKillRegion, 1, -1, math.MaxInt, killed(0, marked)},
		order{api.DoCopyRegion, 1, 5, 0, made(0, 0, "", 5, "e\u0301\r\n", false)}, order{api.DoCopyRegion, 1, 4, 1, made(0, 0, "", 5, "\r\n", false)}, order{api.DoCopyRegion, 1, 99, 7, made(0, 0, "", 9, "x", false)},
		order{api.DoCopyRegion, 1, 0, 5, made(0, 0, "", 0, "e\u0301\r\n", false)}, order{api.DoCopyRegion, 1, 1, 6, made(0, 0, "", 3, "\r\n\u4e00", false)}, order{api.DoCopyRegion, 1, -1, math.MaxInt, made(0, 0, "", 0, marked, false)},
		// The count is passed over.
		order{api.DoKillRegion, 9, 5, 3, killedBack(3, "\r\n")}, order{api.DoCopyRegion, 9, 5, 3, made(0, 0, "", 5, "\r\n", false)},
	)
}

// TestLines has kills from lines' ends and beginnings, from within lines, through empty lines and at the text's end.
func TestLines(t *testing.T) {
	lookAtOrders(t, "ab\r\n\n\ncd\n",
		order{api.DoKillLineEnd, 1, 0, -1, killed(0, "ab")}, order{api.DoKillLineEnd, 1, 1, -1, killed(1, "b")}, order{api.DoKillLineEnd, 1, 2, -1, killed(2, "\r\n")}, order{api.DoKillLineEnd, 1, 3, -1, killed(4, "\n")}, order{api.DoKillLineEnd, 1, 4, -1, killed(4, "\n")}, order{api.DoKillLineEnd, 1, 6, -1, killed(6, "cd")}, order{api.DoKillLineEnd, 1, 8, -1, killed(8, "\n")}, order{api.DoKillLineEnd, 1, 9, -1, refused(api.ErrEdge)}, order{api.DoKillLineEnd, 7, 9, -1, refused(api.ErrEdge)},
		order{api.DoKillLineEnd, 0, 0, -1, killed(0, "ab")}, order{api.DoKillLineEnd, 2, 0, -1, killed(0, "ab\r\n")}, order{api.DoKillLineEnd, 3, 0, -1, killed(0, "ab\r\n\n")}, order{api.DoKillLineEnd, 4, 0, -1, killed(0, "ab\r\n\n\n")}, order{api.DoKillLineEnd, 5, 0, -1, killed(0, "ab\r\n\n\ncd")}, order{api.DoKillLineEnd, 6, 0, -1, killed(0, "ab\r\n\n\ncd\n")}, order{api.DoKillLineEnd, 7, 0, -1, killed(0, "ab\r\n\n\ncd\n")},
		order{api.DoKillLineEnd, 2, 4, -1, killed(4, "\n\n")}, order{api.DoKillLineEnd, 3, 4, -1, killed(4, "\n\ncd")}, order{api.DoKillLineEnd, 1000, 4, -1, killed(4, "\n\ncd\n")}, order{api.DoKillLineEnd, math.MaxInt, 7, -1, killed(7, "d\n")},
		order{api.DoKillLineStart, 1, 0, -1, refused(api.ErrEdge)}, order{api.DoKillLineStart, 1, 1, -1, killedBack(0, "a")}, order{api.DoKillLineStart, 1, 2, -1, killedBack(0, "ab")}, order{api.DoKillLineStart, 1, 3, -1, refused(api.ErrEdge)}, order{api.DoKillLineStart, 1, 4, -1, refused(api.ErrEdge)}, order{api.DoKillLineStart, 1, 5, -1, refused(api.ErrEdge)}, order{api.DoKillLineStart, 1, 6, -1, refused(api.ErrEdge)}, order{api.DoKillLineStart, 1, 7, -1, killedBack(6, "c")}, order{api.DoKillLineStart, 1, 8, -1, killedBack(6, "cd")}, order{api.DoKillLineStart, 1, 9, -1, refused(api.ErrEdge)},
		// Of this kind nothing is said of the count.
		order{api.DoKillLineStart, 5, 8, -1, killedBack(6, "cd")}, order{api.DoKillLineStart, math.MaxInt, 6, -1, refused(api.ErrEdge)},
	)
	lookAtOrders(t, "ab\ncd",
		order{api.DoKillLineEnd, 9, 3, -1, killed(3, "cd")}, order{api.DoKillLineEnd, 1, 5, -1, refused(api.ErrEdge)}, order{api.DoKillLineStart, 1, 99, -1, killedBack(3, "cd")},
	)
	// What is no newline: a CR without a LF, U+0085, U+2028.
	lookAtOrders(t, "a\r\u0085\u2028b\r\r\n",
		order{api.DoKillLineEnd, 1, 0, -1, killed(0, "a\r\u0085\u2028b\r")}, order{api.DoKillLineEnd, 1, 9, -1, killed(9, "\r\n")}, order{api.DoKillLineEnd, 1, 10, -1, refused(api.ErrEdge)}, order{api.DoKillLineEnd, 2, 1, -1, killed(1, "\r\u0085\u2028b\r\r\n")},
		order{api.DoKillLineStart, 1, 9, -1, killedBack(0, "a\r\u0085\u2028b\r")}, order{api.DoKillLineStart, 1, 2, -1, killedBack(0, "a\r")},
	)
}

// TestChars has DoTransposeChars at lines' beginnings and ends, in lines of one cluster and of none, and with clusters of all kinds.
func TestChars(t *testing.T) {
	const chars = api.DoTransposeChars
	lookAtOrders(t, "ab\r\nc\n\nde",
		order{chars, 1, 0, -1, refused(api.ErrEdge)}, order{chars, 1, 1, -1, written(0, "ba")}, order{chars, 1, 2, -1, written(0, "ba")},
		order{chars, 1, 3, -1, refused(api.ErrEdge)}, order{chars, 1, 4, -1, refused(api.ErrEdge)}, order{chars, 1, 5, -1, refused(api.ErrEdge)}, order{chars, 1, 6, -1, refused(api.ErrEdge)},
		order{chars, 1, 7, -1, refused(api.ErrEdge)}, order{chars, 1, 8, -1, written(7, "ed")}, order{chars, 1, 9, -1, written(7, "ed")},
		// The count and the region are passed over.
		order{chars, 3, 1, 9, written(0, "ba")}, order{chars, math.MaxInt, 9, 0, written(7, "ed")},
	)
	// The wide one from 0 to 3, the bad byte to 4, the letter with its mark to 7, LF to 8.
	lookAtOrders(t, "\u4e00\xffe\u0301\n",
		order{chars, 1, 1, -1, written(0, "\xff\u4e00")}, order{chars, 1, 3, -1, written(0, "\xff\u4e00")}, order{chars, 1, 4, -1, written(3, "e\u0301\xff")}, order{chars, 1, 5, -1, written(3, "e\u0301\xff")}, order{chars, 1, 7, -1, written(3, "e\u0301\xff")}, order{chars, 1, 8, -1, refused(api.ErrEdge)},
	)
	// A CR without a LF is a cluster of its line, and CR LF beside it is none.
	lookAtOrders(t, "\ra\r\nb",
		order{chars, 1, 0, -1, refused(api.ErrEdge)}, order{chars, 1, 1, -1, written(0, "a\r")}, order{chars, 1, 2, -1, written(0, "a\r")}, order{chars, 1, 3, -1, refused(api.ErrEdge)}, order{chars, 1, 5, -1, refused(api.ErrEdge)},
	)
	// Behind the first of these the cursor stands within a cluster of the new text.
	lookAtOrders(t, "a\x01\u0301", order{chars, 1, 1, -1, written(0, "\x01a")}, order{chars, 1, 2, -1, written(1, "\u0301\x01")}, order{chars, 1, 4, -1, written(1, "\u0301\x01")})
	lookAtOrders(t, "x\xe4\xb8y", order{chars, 1, 1, -1, written(0, "\xe4x")}, order{chars, 1, 2, -1, written(1, "\xb8\xe4")}, order{chars, 1, 3, -1, written(2, "y\xb8")})
	lookAtOrders(t, "a", order{chars, 1, 0, -1, refused(api.ErrEdge)}, order{chars, 1, 1, -1, refused(api.ErrEdge)})
	lookAtOrders(t, "\n", order{chars, 1, 0, -1, refused(api.ErrEdge)}, order{chars, 1, 1, -1, refused(api.ErrEdge)})
	lookAtOrders(t, "ab\n", order{chars, 1, 3, -1, refused(api.ErrEdge)})
}

// TestWords has DoTransposeWords ahead of the first word, within words, between them and behind the last one, and in texts of one word and of none.
func TestWords(t *testing.T) {
	const words = api.DoTransposeWords
	// The words are 1 3, 5 8 and 9 12; the text ends at 14.
	text := " ab, c_1\n\u4e00- "
	for at, want := range []answer{
		0: written(1, "c_1, ab"), 1: written(1, "c_1, ab"), 2: written(1, "c_1, ab"), 3: written(1, "c_1, ab"), 4: written(1, "c_1, ab"), 5: written(1, "c_1, ab"),
		6: written(5, "\u4e00\nc_1"), 7: written(5, "\u4e00\nc_1"), 8: written(5, "\u4e00\nc_1"), 9: written(5, "\u4e00\nc_1"), 10: written(5, "\u4e00\nc_1"), 11: written(5, "\u4e00\nc_1"), 12: written(5, "\u4e00\nc_1"), 13: written(5, "\u4e00\nc_1"), 14: written(5, "\u4e00\nc_1"),
	} {
		// The count and the region are passed over.
		lookAtOrders(t, text, order{words, 1, at, -1, want}, order{words, 7, at, 3, want}, order{words, math.MinInt, at, 14, want})
	}
	lookAtOrders(t, text, order{words, 1, math.MinInt, -1, written(1, "c_1, ab")}, order{words, 1, math.MaxInt, -1, written(5, "\u4e00\nc_1")})
	for at := range 4 {
		lookAtOrders(t, "a\xffb", order{words, 1, at, -1, written(0, "b\xffa")})
	}
	// Words of several lengths, far from each other.
	far := strings.Repeat(".", 200)
	lookAtOrders(t, far+"one"+far+"three"+far+"_"+far,
		order{words, 1, 0, -1, written(200, "three"+far+"one")}, order{words, 1, 200, -1, written(200, "three"+far+"one")}, order{words, 1, 300, -1, written(200, "three"+far+"one")}, order{words, 1, 403, -1, written(200, "three"+far+"one")},
		order{words, 1, 404, -1, written(403, "_"+far+"three")}, order{words, 1, 500, -1, written(403, "_"+far+"three")}, order{words, 1, 809, -1, written(403, "_"+far+"three")},
	)
	for _, text := range []string{"", "a", "  ab  ", "\n", " -\xff", "\xff\xfe", "-\u0301-", "\u4e00", far, "ab" + far, far + "ab"} {
		for _, at := range about(len(text)) {
			lookAtOrders(t, text, order{words, 1, at, 0, refused(api.ErrEdge)})
		}
	}
}

// TestCases has the forms of words from within words, from between them and behind them, and where the text stays the same.
func TestCases(t *testing.T) {
	// The words are 0 2, 3 5, 6 10 (U+00E9 and U+00DF), 11 12; the byte at 10 is bad.
	lookAtOrders(t, "ab Cd-\u00e9\u00df\xffE",
		order{api.DoUpperWord, 1, 0, -1, written(0, "AB")}, order{api.DoUpperWord, 1, 1, -1, written(1, "B")}, order{api.DoUpperWord, 1, 2, -1, written(2, " CD")}, order{api.DoUpperWord, 1, 4, -1, written(4, "D")}, order{api.DoUpperWord, 1, 5, -1, written(5, "-\u00c9\u00df")}, order{api.DoUpperWord, 1, 7, -1, written(8, "\u00df")}, order{api.DoUpperWord, 1, 10, -1, written(10, "\xffE")}, order{api.DoUpperWord, 1, 11, -1, written(11, "E")},
		order{api.DoUpperWord, 0, 3, -1, written(3, "CD")}, order{api.DoUpperWord, 2, 3, -1, written(3, "CD-\u00c9\u00df")}, order{api.DoUpperWord, 3, 0, 7, written(0, "AB CD-\u00c9\u00df")}, order{api.DoUpperWord, 99, 1, -1, written(1, "B CD-\u00c9\u00df\xffE")}, order{api.DoUpperWord, 1, 12, -1, refused(api.ErrEdge)}, order{api.DoUpperWord, 9, 12, 3, refused(api.ErrEdge)},
		order{api.DoLowerWord, 1, 0, -1, written(0, "ab")}, order{api.DoLowerWord, 1, 3, -1, written(3, "cd")}, order{api.DoLowerWord, 1, 4, -1, written(4, "d")}, order{api.DoLowerWord, 1, 8, -1, written(8, "\u00df")}, order{api.DoLowerWord, 1, 10, -1, written(10, "\xffe")}, order{api.DoLowerWord, math.MaxInt, 2, -1, written(2, " cd-\u00e9\u00df\xffe")}, order{api.DoLowerWord, 1, 12, -1, refused(api.ErrEdge)},
		order{api.DoCapitalWord, 1, 0, -1, written(0, "Ab")}, order{api.DoCapitalWord, 1, 1, -1, written(1, "B")}, order{api.DoCapitalWord, 1, 2, -1, written(2, " Cd")}, order{api.DoCapitalWord, 1, 3, -1, written(3, "Cd")}, order{api.DoCapitalWord, 1, 4, -1, written(4, "D")}, order{api.DoCapitalWord, 3, 0, -1, written(0, "Ab Cd-\u00c9\u00df")}, order{api.DoCapitalWord, 99, 4, -1, written(4, "D-\u00c9\u00df\xffE")}, order{api.DoCapitalWord, 1, 12, -1, refused(api.ErrEdge)},
	)
	for _, kind := range []api.CommandKind{api.DoUpperWord, api.DoLowerWord, api.DoCapitalWord} {
		// Behind the last word the text's end is reached, and what is put is the same.
		lookAtOrders(t, "ab  ", order{kind, 1, 2, -1, written(2, "  ")}, order{kind, 5, 3, -1, written(3, " ")}, order{kind, 1, 4, -1, refused(api.ErrEdge)})
		lookAtOrders(t, "\xff-\n", order{kind, 1, 0, -1, written(0, "\xff-\n")}, order{kind, 1, 2, -1, written(2, "\n")})
	}
}

// TestWordKills has the kills of words that reach the text's ends, where there is no word.
func TestWordKills(t *testing.T) {
	lookAtOrders(t, " .ab, c\xff ",
		order{api.DoKillWordRight, 1, 0, -1, killed(0, " .ab")}, order{api.DoKillWordRight, 1, 3, -1, killed(3, "b")}, order{api.DoKillWordRight, 1, 4, -1, killed(4, ", c")}, order{api.DoKillWordRight, 1, 7, -1, killed(7, "\xff ")}, order{api.DoKillWordRight, 1, 8, -1, killed(8, " ")}, order{api.DoKillWordRight, 1, 9, -1, refused(api.ErrEdge)},
		order{api.DoKillWordRight, 2, 0, -1, killed(0, " .ab, c")}, order{api.DoKillWordRight, 3, 0, -1, killed(0, " .ab, c\xff ")}, order{api.DoKillWordRight, 4, 0, -1, killed(0, " .ab, c\xff ")}, order{api.DoKillWordRight, math.MinInt, 0, 5, killed(0, " .ab")},
		order{api.DoKillWordLeft, 1, 9, -1, killedBack(6, "c\xff ")}, order{api.DoKillWordLeft, 1, 6, -1, killedBack(2, "ab, ")}, order{api.DoKillWordLeft, 1, 3, -1, killedBack(2, "a")}, order{api.DoKillWordLeft, 1, 2, -1, killedBack(0, " .")}, order{api.DoKillWordLeft, 1, 1, -1, killedBack(0, " ")}, order{api.DoKillWordLeft, 1, 0, -1, refused(api.ErrEdge)},
		order{api.DoKillWordLeft, 2, 9, -1, killedBack(2, "ab, c\xff ")}, order{api.DoKillWordLeft, 3, 9, -1, killedBack(0, " .ab, c\xff ")}, order{api.DoKillWordLeft, 99, 9, -1, killedBack(0, " .ab, c\xff ")}, order{api.DoKillWordLeft, 0, 9, 5, killedBack(6, "c\xff ")},
	)
}

// TestCounts has counts below 1, 1, MostCount and above it, in a text of 3000 clusters, 1500 words and 1501 lines.
func TestCounts(t *testing.T) {
	text := strings.Repeat("a\n", 1500)
	upper := strings.ToUpper(text)
	for count, steps := range map[int]int{math.MinInt: 1, -1: 1, 0: 1, 1: 1, 2: 2, 999: 999, 1000: 1000, 1001: 1000, 1499: 1000, 2000: 1000, 1 << 31: 1000, 1 << 32: 1000, math.MaxInt: 1000} {
		lookAtOrders(t, text,
			order{api.DoDeleteRight, count, 0, -1, cutOut(0, steps)}, order{api.DoDeleteLeft, count, 3000, -1, cutOut(3000-steps, steps)},
			order{api.DoKillWordRight, count, 0, -1, killed(0, text[:2*steps-1])}, order{api.DoKillWordLeft, count, 3000, -1, killedBack(3000-2*steps, text[:2*steps])},
			order{api.DoKillLineEnd, count, 0, -1, killed(0, text[:steps])}, order{api.DoKillLineEnd, count, 1, -1, killed(1, text[1:1+steps])},
			order{api.DoUpperWord, count, 0, -1, written(0, upper[:2*steps-1])}, order{api.DoLowerWord, count, 1, -1, written(1, text[1:2*steps+1])}, order{api.DoCapitalWord, count, 0, -1, written(0, upper[:2*steps-1])},
			order{api.DoKillLineStart, count, 1, -1, killedBack(0, "a")}, order{api.DoKillRegion, count, 4, 6, killed(4, "a\n")}, order{api.DoCopyRegion, count, 4, 6, made(0, 0, "", 4, "a\n", false)}, order{api.DoTransposeWords, count, 4, -1, written(2, "a\na")},
		)
	}
}

// TestNothing has every kind of the empty text.
func TestNothing(t *testing.T) {
	for _, kind := range theKinds {
		for _, n := range []int{math.MinInt, -1, 0, 1, 7, math.MaxInt} {
			for _, region := range []int{math.MinInt, -1, 0, 1, math.MaxInt} {
				want := api.ErrEdge
				if byRegion(kind) && region < 0 {
					want = api.ErrNoMark
				}
				lookAtOrders(t, "", order{kind, n, n, region, refused(want)})
			}
		}
	}
}
