package rope_test

import (
	"iter"
	"math"
	"slices"
	"strings"
	"testing"
	"time"
	"unsafe"

	"bodkin/api"
	"bodkin/metric"
	"bodkin/rope"
)

// wrongNumbers are far out of every range; sums of two of them wrap round.
var wrongNumbers = []int{math.MinInt, math.MinInt + 1, math.MinInt + 2, -1 << 32, 1 << 32, math.MaxInt - 2, math.MaxInt - 1, math.MaxInt}

// near lists the offsets at the ends of a text of n bytes with some beside them, and the wrong numbers.
func near(n int) []int {
	return append([]int{-2, -1, 0, 1, 2, n / 2, n - 2, n - 1, n, n + 1, n + 2}, wrongNumbers...)
}

// numbers answers numbers that look mixed, the same ones at each run.
func numbers(seed uint64) func(below int) int {
	return func(below int) int {
		seed = seed*6364136223846793005 + 1442695040888963407
		return int(seed>>33) % below
	}
}

// patterns lists texts that are laid one behind the other, to be cut anywhere.
func patterns() []string {
	return []string{
		"a", "ab\n", "\r\n", "\n", "\u4e00", "e\u0301", "\u0301", "\xff", "\U0001F600", "\x01\u0301", "\xe4\xb8",
		"x\u4e00\u0301\r\n\xff\U0001F600\xcc", "e" + strings.Repeat("\u0301", 14), "0123456789" + strings.Repeat("\u0301", 40), strings.Repeat("ab", 20) + "\r\n" + strings.Repeat("\u0301", 17),
	}
}

// long answers n bytes of a pattern that is laid again and again.
func long(pattern string, n int) string {
	return strings.Repeat(pattern, n/len(pattern)+1)[:n]
}

func letters(n int) string {
	return long("abcdefghijklmnopqrstuvwxyz", n)
}

func marks(n int) string {
	return strings.Repeat("\u0301", n)
}

// TestNewOfEveryLength has texts of all lengths about HalfLeaf, MostLeaf and what is twice and three times as long.
func TestNewOfEveryLength(t *testing.T) {
	for _, p := range patterns() {
		for n := range 210 {
			look(t, rope.New(long(p, n)), long(p, n))
		}
		for _, n := range []int{1000, 4096, 5001} {
			look(t, rope.New(long(p, n)), long(p, n))
		}
	}
}

// TestNewWithLongClusters has a long cluster at each distance from the ends at which a leaf may be cut or not.
func TestNewWithLongClusters(t *testing.T) {
	for ahead := range 70 {
		for _, n := range []int{1, 7, 15, 16, 17, 31, 32, 33, 50} {
			for _, behind := range []int{0, 1, 30, 31, 32, 33, 34, 63, 64, 65, 66, 100} {
				s := letters(ahead) + marks(n) + letters(behind)
				look(t, rope.New(s), s)
			}
		}
	}
	for _, n := range []int{33, 100, 5000} {
		for _, s := range []string{marks(n), letters(40) + marks(n) + letters(200), letters(200) + marks(n), letters(99) + marks(n) + letters(31) + marks(n) + letters(99)} {
			look(t, rope.New(s), s)
		}
	}
}

// TestLeavesWrittenDown has texts that the shape leaves no choice, or few.
func TestLeavesWrittenDown(t *testing.T) {
	for _, x := range []struct {
		text string
		want [][]int
	}{
		{"", [][]int{{0}}}, {"a", [][]int{{1}}}, {letters(31), [][]int{{31}}}, {letters(63), [][]int{{63}}},
		{letters(31) + "\r\n" + letters(31), [][]int{{64}}}, {letters(32) + "\r\n" + letters(31), [][]int{{32, 33}}},
		{marks(16) + "\r\n" + marks(15), [][]int{{64}, {32, 32}}}, {marks(16) + "\n" + marks(16), [][]int{{32, 33}, {33, 32}}},
		{letters(32) + marks(20), [][]int{{72}}}, {letters(33) + marks(20), [][]int{{32, 41}}},
		{letters(20) + marks(20) + letters(11), [][]int{{71}}}, {letters(20) + marks(20) + letters(32), [][]int{{60, 32}}},
		{"x" + marks(40) + letters(31), [][]int{{112}}}, {"x" + marks(40) + letters(32), [][]int{{81, 32}}},
		{letters(32) + marks(50) + letters(31), [][]int{{163}}}, {letters(32) + marks(50) + letters(33), [][]int{{132, 33}, {133, 32}}},
		{letters(33) + marks(50) + letters(32), [][]int{{32, 101, 32}}}, {letters(33) + marks(50) + letters(33), [][]int{{32, 101, 33}, {32, 102, 32}}},
	} {
		got := lengths(rope.New(x.text))
		if !slices.ContainsFunc(x.want, func(want []int) bool { return slices.Equal(got, want) }) {
			t.Errorf("P7.2: the leaves of %q are %v, want one of %v", x.text, got, x.want)
		}
	}
}

// TestSplitEverywhere splits texts at each of their offsets, and lays the halves together again.
func TestSplitEverywhere(t *testing.T) {
	for _, p := range patterns() {
		for _, n := range []int{0, 1, 5, 40, 64, 65, 100, 131, 300} {
			text := long(p, n)
			r := rope.New(text)
			k := keep(r, text)
			for at := 0; at <= n; at++ {
				a, b := split(t, r, text, at)
				k.again(t)
				look(t, rope.Concat(a, b), text)
				look(t, a, text[:at])
				look(t, b, text[at:])
			}
		}
	}
}

// TestConcatOfTwo has ends and beginnings that change one another, on texts of lengths about the leaves' bounds.
func TestConcatOfTwo(t *testing.T) {
	ends := []string{"", "\r", "\xe4", "\xe4\xb8", "\xf0\x9f", "\xf0\x9f\x98", "\u0301", "\n", "\x01", "\u4e00", "x" + marks(20), "\n" + marks(40)}
	beginnings := []string{"", "a", "\n", "\x80", "\xb8\x80", "\x98\x80", "\u0301", "\x81", marks(20), "\x80" + marks(40)}
	sizes := []int{0, 1, 30, 31, 32, 33, 63, 64, 65, 97, 200}
	for _, end := range ends {
		for _, beginning := range beginnings {
			for _, n := range sizes {
				for _, m := range sizes {
					a, b := letters(n)+end, beginning+letters(m)
					look(t, rope.Concat(rope.New(a), rope.New(b)), a+b)
				}
			}
		}
	}
}

// TestConcatOfMany has no ropes, one, nil ones, and texts of which each is a piece of something.
func TestConcatOfMany(t *testing.T) {
	look(t, rope.Concat(), "")
	look(t, rope.Concat(nil), "")
	look(t, rope.Concat(nil, nil, nil), "")
	look(t, rope.Concat(rope.New("")), "")
	var none []*rope.Rope
	look(t, rope.Concat(none...), "")
	for _, p := range patterns() {
		for _, size := range []int{1, 2, 7, 33, 70} {
			for _, n := range []int{1, 2, 3, 4, 5, 9, 30} {
				text := long(p, size*n)
				var ropes []*rope.Rope
				var list []kept
				for at := 0; at < len(text); at += size {
					r := rope.New(text[at : at+size])
					ropes = append(ropes, nil, r, &rope.Rope{})
					list = append(list, keep(r, text[at:at+size]))
				}
				look(t, rope.Concat(ropes...), text)
				for _, k := range list {
					k.again(t)
				}
			}
		}
	}
}

// TestConcatOfHighAndLow has ropes of many heights both ways round, also those that Split left.
func TestConcatOfHighAndLow(t *testing.T) {
	var ropes []*rope.Rope
	whole := rope.New(letters(20000))
	for n := 1; n <= 3000; n += n/2 + 30 {
		a, b, _ := whole.Split(n)
		c, _, _ := b.Split(n)
		ropes = append(ropes, rope.New(letters(n)), a, c)
	}
	for _, a := range ropes {
		for _, b := range ropes {
			look(t, rope.Concat(a, b), a.Text()+b.Text())
		}
	}
	for _, a := range ropes {
		look(t, rope.Concat(a, whole), a.Text()+letters(20000))
		look(t, rope.Concat(whole, a), letters(20000)+a.Text())
		look(t, rope.Concat(a, a, a, a), strings.Repeat(a.Text(), 4))
	}
}

// TestReplaceEverywhere has edits of many kinds at each offset of texts of some leaves.
func TestReplaceEverywhere(t *testing.T) {
	puts := []string{"", "x", "\u0301", "\r", "\n", "\xe4", "\x80", letters(31), letters(70), marks(40)}
	texts := []string{"", "a", letters(64), letters(65), letters(140), long("x\u4e00\u0301\r\n\xff\U0001F600\xcc", 150), letters(40) + marks(40) + letters(40), long("\r\n", 130), long("\u4e00", 129)}
	for _, text := range texts {
		r := rope.New(text)
		k := keep(r, text)
		for at := 0; at <= len(text); at++ {
			for _, cut := range []int{0, 1, 2, 31, 33, 65, len(text) - at} {
				if cut > len(text)-at {
					continue
				}
				for _, put := range puts {
					replace(t, r, text, at, cut, put)
				}
			}
		}
		k.again(t)
	}
}

// TestEditsAtLeafEnds puts what makes no boundary of a leaf's end there, ahead of it and behind it.
func TestEditsAtLeafEnds(t *testing.T) {
	for _, text := range []string{letters(400), long("\r\n", 400), long("\u4e00", 399), long("\U0001F600", 400), long("e\u0301", 402)} {
		r := rope.New(text)
		for end := range r.Leaves() {
			for at := max(0, end-4); at <= end+4; at++ {
				for cut := range 9 {
					for _, put := range []string{"", "\u0301", "\r", "\n", "\x80", "\xf0\x9f", marks(33)} {
						replace(t, r, text, at, cut, put)
					}
				}
			}
		}
	}
}

// someText answers bytes that are often a piece of something.
func someText(next func(int) int, most int) string {
	p := patterns()
	var s string
	for range 1 + next(3) {
		s += long(p[next(len(p))], next(most)+1)[next(2):]
	}
	return s[:min(len(s), most)]
}

// step works on one of the ropes, or on some of them, and answers what comes of it.
func step(t *testing.T, next func(int) int, pool []kept, most int) []kept {
	k := pool[next(len(pool))]
	n := len(k.text)
	at := next(n + 1)
	switch next(8) {
	case 0:
		a, b := split(t, k.r, k.text, at)
		return []kept{keep(a, k.text[:at]), keep(b, k.text[at:])}
	case 1:
		other := pool[next(len(pool))]
		r := rope.Concat(k.r, other.r)
		look(t, r, k.text+other.text)
		return []kept{keep(r, k.text+other.text)}
	case 2:
		some := pool[next(len(pool)):]
		some = some[:next(len(some)+1)]
		var ropes []*rope.Rope
		var text string
		for _, x := range some {
			ropes, text = append(ropes, x.r), text+x.text
		}
		r := rope.Concat(ropes...)
		look(t, r, text)
		return []kept{keep(r, text)}
	case 3:
		replace(t, k.r, k.text, wrongNumbers[next(len(wrongNumbers))], next(9), "wrong")
		split(t, k.r, k.text, n+1+next(3))
		return nil
	}
	r, text := replace(t, k.r, k.text, at, next(min(n-at, most)+1), someText(next, most))
	return []kept{keep(r, text)}
}

// TestManySteps has long runs of calls on a few ropes; behind each all ropes that there are are asked again.
func TestManySteps(t *testing.T) {
	for seed, most := range []int{3, 40, 40, 150, 400} {
		next := numbers(uint64(seed))
		pool := []kept{keep(rope.New(""), ""), keep(rope.New(letters(500)), letters(500)), keep(nil, "")}
		for range 500 {
			for _, k := range step(t, next, pool, most) {
				for _, old := range pool {
					old.again(t)
				}
				if len(pool) < 12 && len(k.text) < 6000 {
					pool = append(pool, k)
				} else if len(k.text) < 6000 {
					pool[next(len(pool))] = k
				}
				n := len(k.text)
				lookBetween(t, k.r, k.text, next(n+1), next(n+1))
				lookBetween(t, k.r, k.text, next(n+1), n)
				lookBetween(t, k.r, k.text, 0, next(n+1))
			}
		}
	}
}

// TestOneRopeForLong edits one rope over and over, so that its leaves come from many edits.
func TestOneRopeForLong(t *testing.T) {
	for seed := range 3 {
		next := numbers(uint64(100 + seed))
		text := long("one line\r\n", 1000)
		r := rope.New(text)
		for range 600 {
			at := next(len(text) + 1)
			cut := next(min(len(text)-at, 80) + 1)
			r, text = replace(t, r, text, at, cut, someText(next, 60))
		}
	}
}

// TestTyping puts in and takes out byte by byte, at one place.
func TestTyping(t *testing.T) {
	for _, p := range patterns() {
		typed := long(p, 250)
		for _, ahead := range []int{0, 10, 100} {
			text := letters(ahead) + letters(ahead)
			r := rope.New(text)
			for n := range typed {
				r, text = replace(t, r, text, ahead+n, 0, typed[n:n+1])
			}
			for n := len(typed); n > 0; n-- {
				r, text = replace(t, r, text, ahead+n-1, 1, "")
			}
		}
	}
}

// TestHeightsOfSequences grows ropes by short and long pieces at one end, at both and in the middle, makes them shorter again, and holds the height against the number of leaves each time.
func TestHeightsOfSequences(t *testing.T) {
	places := []func(n, count int) int{
		func(n, count int) int { return 0 },
		func(n, count int) int { return n },
		func(n, count int) int { return n / 2 },
		func(n, count int) int { return count % 2 * n },
	}
	for _, size := range []int{1, 40, 64, 130} {
		for _, place := range places {
			r, text := rope.New(""), ""
			edit := func(at, cut int, put string) {
				r, _, _ = r.Replace(at, cut, put)
				text = text[:at] + put + text[at+cut:]
				if leaves := len(lengths(r)); tall(r.Height(), leaves) {
					t.Fatalf("the shape, bound 5: height %d with %d leaves", r.Height(), leaves)
				}
			}
			for n := range 300 {
				edit(place(len(text), n), 0, letters(size))
			}
			look(t, r, text)
			for n := 0; len(text) > 100; n++ {
				edit(place(len(text)-90, n), 90, "x")
				if n%50 == 0 {
					look(t, r, text)
				}
			}
			look(t, r, text)
		}
	}
}

// TestSliceAndMeasure has all pairs of offsets of texts of some leaves.
func TestSliceAndMeasure(t *testing.T) {
	for _, text := range []string{"", "a", letters(64), letters(100), long("x\u4e00\u0301\r\n\xff\U0001F600\xcc", 200), marks(70), long("\r\n", 140)} {
		r := rope.New(text)
		for from := -1; from <= len(text)+1; from++ {
			for to := -1; to <= len(text)+1; to++ {
				lookBetween(t, r, text, from, to)
			}
		}
	}
	text := long("\r\n\u4e00\u0301a", 3000)
	r := rope.New(text)
	next := numbers(5)
	for range 3000 {
		lookBetween(t, r, text, next(len(text)+1), next(len(text)+1))
	}
}

// TestWrongNumbers has all pairs of numbers at the ends of texts and far from them.
func TestWrongNumbers(t *testing.T) {
	for _, text := range []string{"", "abc", letters(200)} {
		r := rope.New(text)
		k := keep(r, text)
		for _, at := range near(len(text)) {
			split(t, r, text, at)
			for _, cut := range near(len(text)) {
				lookBetween(t, r, text, at, cut)
				for _, put := range []string{"", "x", letters(99)} {
					replace(t, r, text, at, cut, put)
				}
			}
		}
		k.again(t)
	}
}

func TestRefusalsWrittenDown(t *testing.T) {
	r := rope.New("abc")
	for _, x := range [][2]int{{-1, 0}, {-1, 1}, {0, -1}, {3, -1}, {0, 4}, {1, 3}, {3, 1}, {4, 0}, {4, -1}, {1, math.MaxInt}, {math.MaxInt, 1}, {math.MaxInt, math.MaxInt}, {math.MinInt, math.MaxInt}, {math.MinInt, math.MinInt}, {math.MaxInt, math.MinInt}, {2, math.MinInt}} {
		if next, out, e := r.Replace(x[0], x[1], "put"); next != nil || out != "" || e != api.ErrRange {
			t.Errorf("P7.5: Replace(%d, %d): %v, %q, %v", x[0], x[1], next, out, e)
		}
	}
	for _, x := range [][2]int{{-1, 0}, {-1, 3}, {-2, -1}, {2, 1}, {0, 4}, {3, 4}, {4, 4}, {4, 3}, {0, -1}, {math.MinInt, 0}, {0, math.MaxInt}, {math.MinInt, math.MaxInt}, {math.MaxInt, math.MinInt}} {
		if s, e := r.Slice(x[0], x[1]); s != "" || e != api.ErrRange {
			t.Errorf("P7.4: Slice(%d, %d): %q, %v", x[0], x[1], s, e)
		}
		if m, e := r.Measure(x[0], x[1]); m != (api.Summary{}) || e != api.ErrRange {
			t.Errorf("P7.4: Measure(%d, %d): %v, %v", x[0], x[1], m, e)
		}
	}
	for _, at := range []int{-1, 4, math.MinInt, math.MaxInt} {
		if a, b, e := r.Split(at); a != nil || b != nil || e != api.ErrRange {
			t.Errorf("P7.6: Split(%d): %v, %v, %v", at, a, b, e)
		}
	}
	look(t, r, "abc")
}

func TestEditsWrittenDown(t *testing.T) {
	r := rope.New("one two")
	for _, x := range []struct {
		at, cut        int
		put, out, text string
	}{
		{0, 0, "", "", "one two"}, {0, 3, "1", "one", "1 two"}, {2, 3, "three", "two", "1 three"}, {7, 0, "!", "", "1 three!"},
		{1, 1, "\xe4\xb8\x80", " ", "1\xe4\xb8\x80three!"}, {2, 1, "", "\xb8", "1\xe4\x80three!"}, {0, 8, "", "1\xe4\x80three", "!"}, {0, 1, "", "!", ""},
		{0, 0, "again", "", "again"},
	} {
		next, out, e := r.Replace(x.at, x.cut, x.put)
		if e != api.OK || out != x.out || next.Text() != x.text {
			t.Fatalf("P7.5: Replace(%d, %d, %q): %q, %q, %v, want %q, %q", x.at, x.cut, x.put, next.Text(), out, e, x.text, x.out)
		}
		r = next
	}
	a, b, e := rope.New("ab\u4e00").Split(3)
	if e != api.OK || a.Text() != "ab\xe4" || b.Text() != "\xb8\x80" || a.Sum().Units != 3 || b.Sum().Units != 2 {
		t.Errorf("P7.6: Split within a character: %q, %q, %v", a.Text(), b.Text(), e)
	}
	if s, e := rope.New("ab\u4e00").Slice(1, 4); s != "b\xe4\xb8" || e != api.OK {
		t.Errorf("P7.4: Slice through a character: %q, %v", s, e)
	}
	if m, e := rope.New("ab\u4e00").Measure(1, 4); e != api.OK || m != (api.Summary{Bytes: 3, Units: 3, Clusters: 3, Cells: 3, Head: "b\xe4\xb8", Tail: "b\xe4\xb8"}) {
		t.Errorf("P7.4: Measure through a character: %v, %v", m, e)
	}
}

// pairsOf lists what a sequence of leaves yields.
func pairsOf(leaves iter.Seq2[int, string]) []string {
	var list []string
	end := 0
	for at, s := range leaves {
		if at != end {
			return append(list, "a leaf out of its place")
		}
		list, end = append(list, s), at+len(s)
	}
	return list
}

// TestLeavesAgain ranges over one sequence again and again: to its end, broken off at each leaf, and nested in itself.
func TestLeavesAgain(t *testing.T) {
	for _, n := range []int{0, 1, 64, 65, 300, 1000} {
		r := rope.New(letters(n))
		leaves := r.Leaves()
		want := pairsOf(leaves)
		if strings.Join(want, "") != letters(n) {
			t.Fatalf("P7.3: the leaves of %d letters: %q", n, want)
		}
		for stop := range want {
			seen := 0
			for _, s := range leaves {
				if s != want[seen] {
					t.Fatalf("P7.3: leaf %d, ranged over again: %q, want %q", seen, s, want[seen])
				}
				if seen == stop {
					break
				}
				seen++
			}
			if seen != stop {
				t.Fatalf("P7.3: %d leaves ahead of the break, want %d", seen, stop)
			}
		}
		seen := 0
		for _, s := range leaves {
			if s != want[seen] || !slices.Equal(pairsOf(leaves), want) || !slices.Equal(pairsOf(r.Leaves()), want) {
				t.Fatalf("P7.3: nested at leaf %d", seen)
			}
			seen++
		}
		if seen != len(want) || !slices.Equal(pairsOf(leaves), want) {
			t.Fatalf("P7.3: %d leaves, ranged over again, want %d", seen, len(want))
		}
	}
}

// TestTwoSequencesAtOnce pulls from two sequences of one rope by turns.
func TestTwoSequencesAtOnce(t *testing.T) {
	r := rope.New(letters(700))
	leaves := r.Leaves()
	a, stopA := iter.Pull2(leaves)
	b, stopB := iter.Pull2(leaves)
	defer stopA()
	defer stopB()
	a()
	for ok := true; ok; {
		at, s, okA := a()
		wantAt, want, okB := b()
		if okA && at != wantAt+len(want) || !okB {
			t.Fatalf("P7.3: %d %q behind %d %q", at, s, wantAt, want)
		}
		ok = okA
	}
}

// TestNothing asks everything of nil and of the zero Rope.
func TestNothing(t *testing.T) {
	for name, r := range map[string]*rope.Rope{"nil": nil, "zero": {}} {
		look(t, r, "")
		for _, at := range near(0) {
			split(t, r, "", at)
			for _, cut := range near(0) {
				lookBetween(t, r, "", at, cut)
				replace(t, r, "", at, cut, "")
				replace(t, r, "", at, cut, "put")
			}
		}
		if leaves := pairsOf(r.Leaves()); len(leaves) != 1 || leaves[0] != "" {
			t.Errorf("P7.8: %s: leaves %q", name, leaves)
		}
		next, text := replace(t, r, "", 0, 0, letters(100))
		next, text = replace(t, next, text, 50, 10, marks(50))
		look(t, rope.Concat(r), "")
		look(t, rope.Concat(r, next, r), text)
		look(t, rope.Concat(next, r, next), text+text)
		a, b := split(t, r, "", 0)
		replace(t, a, "", 0, 0, "x")
		replace(t, b, "", 0, 0, "x")
		look(t, r, "")
	}
}

// TestEmptied has ropes that lost all their text: they are to be used like any other.
func TestEmptied(t *testing.T) {
	for _, n := range []int{0, 1, 64, 65, 1000} {
		r, text := replace(t, rope.New(letters(n)), letters(n), 0, n, "")
		replace(t, r, text, 0, 0, "x")
		look(t, rope.Concat(r, rope.New("y"), r), "y")
		a, b := split(t, r, text, 0)
		look(t, rope.Concat(a, b), "")
	}
}

// written answers a text whose memory the test can write over.
func written(s string) (string, []byte) {
	room := []byte(s)
	return unsafe.String(unsafe.SliceData(room), len(room)), room
}

// TestArgumentsAreNotKept writes over the memory of texts that ropes were made of.
func TestArgumentsAreNotKept(t *testing.T) {
	for _, n := range []int{1, 20, 64, 65, 500} {
		s, room := written(letters(n))
		made := rope.New(s)
		put, _, _ := rope.New(letters(99)).Replace(50, 0, s)
		first, _, _ := rope.New("").Replace(0, 0, s)
		for i := range room {
			room[i] = '#'
		}
		look(t, made, letters(n))
		look(t, put, letters(50)+letters(n)+letters(99)[50:])
		look(t, first, letters(n))
	}
}

// TestListsAreNotKept writes over a list of ropes that was handed in, and looks at its spare room.
func TestListsAreNotKept(t *testing.T) {
	a, b, spare := rope.New("a"), rope.New("b"), rope.New("spare")
	room := []*rope.Rope{a, nil, b, spare}
	r := rope.Concat(room[:3]...)
	if room[0] != a || room[1] != nil || room[2] != b || room[3] != spare {
		t.Error("R3: Concat changed what was handed in")
	}
	clear(room)
	look(t, r, "ab")
	one := rope.Concat(a)
	*a = rope.Rope{}
	look(t, one, "a")
	look(t, r, "ab")
}

// TestAnswersStay writes over what was handed in long after answers were given.
func TestAnswersStay(t *testing.T) {
	s, room := written(letters(300))
	r := rope.New(s)
	text := r.Text()
	piece, _ := r.Slice(10, 200)
	m, _ := r.Measure(10, 200)
	next, out, _ := r.Replace(5, 290, s[:7])
	for i := range room {
		room[i] = '#'
	}
	if text != letters(300) || piece != letters(300)[10:200] || m != metric.Measure(letters(300)[10:200]) || out != letters(300)[5:295] {
		t.Error("R3: an answer changed")
	}
	look(t, next, letters(5)+letters(7)+letters(300)[295:])
}

// subtrees adds a tree and all that is below it to the set.
func subtrees(x rope.Tree, set map[rope.Tree]bool) {
	set[x] = true
	if left, right, ok := x.Parts(); ok {
		subtrees(left, set)
		subtrees(right, set)
	}
}

// fresh counts the leaves and the knots of a rope that are not in the set.
func fresh(r *rope.Rope, set map[rope.Tree]bool) (leaves, knots int) {
	var count func(x rope.Tree)
	count = func(x rope.Tree) {
		if set[x] {
			return
		}
		left, right, ok := x.Parts()
		if !ok {
			leaves++
			return
		}
		knots++
		count(left)
		count(right)
	}
	count(r.Tree())
	return leaves, knots
}

// TestFewNewLeaves counts what an edit makes anew of a rope of thousands of leaves.
func TestFewNewLeaves(t *testing.T) {
	for _, p := range []string{"a", "\r\n", "x\u4e00\u0301\r\n\xff\U0001F600\xcc", "e" + marks(14)} {
		r := rope.New(long(p, 300000))
		old := map[rope.Tree]bool{}
		subtrees(r.Tree(), old)
		check := func(name string, ropes ...*rope.Rope) {
			t.Helper()
			for _, x := range ropes {
				if leaves, knots := fresh(x, old); leaves > 10 || knots > 3*r.Height()+10 {
					t.Fatalf("P7.9: %s of a rope of height %d: %d new leaves, %d new knots", name, r.Height(), leaves, knots)
				}
			}
		}
		next := numbers(9)
		for range 300 {
			at := next(r.Len() - 5000)
			x, _, _ := r.Replace(at, next(3), "put")
			check("Replace", x)
			x, _, _ = r.Replace(at, next(5000), "\u0301")
			check("Replace of much", x)
			a, b, _ := r.Split(at)
			check("Split", a, b)
			subtrees(a.Tree(), old)
			subtrees(b.Tree(), old)
			check("Concat", rope.Concat(a, b), rope.Concat(b, a), rope.Concat(r, a), rope.Concat(b, r))
		}
	}
}

// clock answers a function that ends the test where it has taken much longer than it should.
func clock(t *testing.T) func(what string) {
	begun := time.Now()
	return func(what string) {
		t.Helper()
		if time.Since(begun) > 60*time.Second {
			t.Fatal("P7.9: it takes too long:", what)
		}
	}
}

// TestLongRopeInGoodTime has so many calls on a long rope that none of them can go over all of it.
func TestLongRopeInGoodTime(t *testing.T) {
	inTime := clock(t)
	text := long("a line of some words\n", 1<<21)
	r := rope.New(text)
	next := numbers(11)
	for range 3000 {
		at := next(r.Len() - 100)
		x, _, _ := r.Replace(at, next(50), "some other words")
		r = x
		inTime("Replace")
	}
	for range 1500 {
		a, b, _ := r.Split(next(r.Len() + 1))
		r = rope.Concat(b, a)
		inTime("Split and Concat")
	}
	for range 40000 {
		at := next(r.Len() - 100)
		r.Slice(at, at+next(100))
		r.Measure(at, at+next(100))
		inTime("Slice and Measure")
	}
	whole := r.Text()
	checkShape(t, told{pairsOf(r.Leaves()), r.Height()}, whole)
	if r.Sum() != metric.Measure(whole) {
		t.Error("P7.1: the Sum of a long rope is", r.Sum())
	}
}

// TestLongClusterOfManyRopes lays marks together that make one cluster.
func TestLongClusterOfManyRopes(t *testing.T) {
	ropes := make([]*rope.Rope, 50000)
	for n := range ropes {
		ropes[n] = rope.New("\u0301")
	}
	r := rope.Concat(ropes...)
	if m := r.Sum(); r.Height() != 0 || m.Bytes != 100000 || m.Clusters != 1 {
		t.Errorf("P7.2: height %d, %v", r.Height(), m)
	}
}
