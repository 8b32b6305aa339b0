package change_test

import (
	"math"
	"strings"
	"testing"
	"time"

	"bodkin/api"
	"bodkin/change"
	"bodkin/cluster"
)

// lookAtOf holds one Of against the plain text, and its change against P17.4.
func lookAtOf(t *testing.T, p plain, kind api.CommandKind, count, at, region int) {
	t.Helper()
	c, e := change.Of(api.Command{Kind: kind, Count: count}, p.text, at, region)
	if got, want := (answer{c, e}), p.makes(kind, count, at, region); got != want {
		t.Fatalf("P17.3: Of(%d, count %d) of %.199q at %d, region %d: %.299v, want %.299v", kind, count, p.text, at, region, got, want)
	}
	if e == api.OK {
		lookAtChange(t, p.text, kind, c)
	}
}

// lookAtChange has what P17.4 says of a change that was answered beside OK.
func lookAtChange(t *testing.T, text string, kind api.CommandKind, c change.Change) {
	t.Helper()
	next, e := change.Apply(text, c.Edit)
	if e != api.OK {
		t.Fatalf("P17.4: the Edit %.99v of kind %d can't be done to %.199q: %v", c.Edit, kind, text, e)
	}
	if c.Cursor < 0 || c.Cursor > len(next) {
		t.Fatalf("P17.4: the Cursor %d of kind %d is no offset of %.199q", c.Cursor, kind, next)
	}
	if kind != api.DoCopyRegion && c.Kill != "" && c.Kill != text[c.Edit.At:c.Edit.At+c.Edit.Cut] {
		t.Fatalf("P17.4: the Kill %.99q of kind %d is not what %.99v cuts from %.199q", c.Kill, kind, c.Edit, text)
	}
}

// byRegion tells the kinds that go by the region.
func byRegion(kind api.CommandKind) bool {
	return kind == api.DoKillRegion || kind == api.DoCopyRegion
}

// lookAtKinds holds every kind, at the offsets, against the plain text. Kinds that pass the region over are asked with few of them, and kinds that go by it with few counts.
func lookAtKinds(t *testing.T, p plain, counts, offsets, regions []int) {
	t.Helper()
	for _, kind := range theKinds {
		for _, at := range offsets {
			near, often := []int{-1, at}, counts
			if byRegion(kind) {
				near, often = regions, counts[:2]
			}
			for _, region := range near {
				for _, count := range often {
					lookAtOf(t, p, kind, count, at, region)
				}
			}
		}
	}
}

// about lists the numbers from 0 to n with some beside them.
func about(n int) []int {
	var list []int
	for i := -2; i <= n+2; i++ {
		list = append(list, i)
	}
	return list
}

// every calls look with each text of at most most of the pieces.
func every(pieces []string, most int, look func(string)) {
	var grow func(text string, most int)
	grow = func(text string, most int) {
		look(text)
		for _, piece := range pieces {
			if most > 0 {
				grow(text+piece, most-1)
			}
		}
	}
	grow("", most)
}

// TestShortTexts has all texts of few pieces: newlines of both kinds, CR without LF, marks, wide ones, controls, bad bytes, letters with other forms, words and what is none.
func TestShortTexts(t *testing.T) {
	look := func(text string) {
		lookAtKinds(t, cut(text), []int{-1, 1, 2, 9}, about(len(text)), about(len(text)))
	}
	every([]string{"a", "B", " ", "\n", "\r", "\u0301", "\u4e00", "\x01", "\u0085", "\xff", "\u00e9", "\xe4\xb8", "1"}, 3, look)
	every([]string{"a", "-", "\n", "\r", "\u0301"}, 4, look)
	every([]string{"\n", "\r", "\u4e00"}, 5, look)
	every([]string{"aB", " "}, 8, look)
}

// numbers answers numbers that look mixed, the same ones at each run.
func numbers(seed uint64) func(below int) int {
	return func(below int) int {
		seed = seed*6364136223846793005 + 1442695040888963407
		return int(seed>>33) % below
	}
}

// mixed answers a text of n pieces.
func mixed(seed uint64, n int) string {
	next := numbers(seed)
	pieces := []string{"a", "bC ", "\u4e00", "\u0301", "\u0301\u0301\u0301", "\r", "\t", "\xff", "\xf0\x9f\x98", "\U0001F600", "\u0085\u0301", "word", "WORD", "  - ", "\u3000\u0301", "\n", "\r\n", "\n\n", "\r\r\n", "\u00df\u00c9", "\u0451_1"}
	var out strings.Builder
	for range n {
		out.WriteString(pieces[next(len(pieces))])
	}
	return out.String()
}

// someOf answers each of the numbers that stands that far behind the one before.
func someOf(numbers []int, far int) []int {
	var list []int
	for i := 0; i < len(numbers); i += far {
		list = append(list, numbers[i])
	}
	return list
}

// TestLongTexts has every kind at every offset of texts with many words, lines and clusters.
func TestLongTexts(t *testing.T) {
	texts := []string{
		strings.Repeat("\r\n", 70), strings.Repeat("\n", 70), strings.Repeat("\r", 90) + "\n" + strings.Repeat("\r", 90),
		strings.Repeat("-", 80) + "ab cd" + strings.Repeat(".", 80), strings.Repeat("- ", 60), strings.Repeat("x", 150),
		strings.Repeat("ab ", 40), "a" + strings.Repeat("\u0301", 60) + "b-" + strings.Repeat("\u0301", 60) + " c",
	}
	for seed := range 12 {
		texts = append(texts, mixed(uint64(seed), 5+seed*7))
	}
	for _, text := range texts {
		all := about(len(text))
		lookAtKinds(t, cut(text), []int{1, 2, 5, 40, 1000}, all, someOf(all, 5))
	}
}

// wrongNumbers are far out of every range.
var wrongNumbers = []int{math.MinInt, math.MinInt + 1, -1 << 32, -1 << 31, -1001, 1 << 30, 1<<30 + 1, 1 << 31, 1 << 32, math.MaxInt - 2, math.MaxInt - 1, math.MaxInt}

// TestWrongNumbers has numbers far out of every range, alone and with right ones.
func TestWrongNumbers(t *testing.T) {
	numbers := append([]int{-1, 0, 1, 3, 6}, wrongNumbers...)
	for _, text := range []string{"", "\n", "x", "ab\u0301\r\n\u4e00 c\n", mixed(5, 20)} {
		lookAtKinds(t, cut(text), numbers, numbers, numbers)
	}
}

// TestChangesDone does changes one behind the other, each where the one before left the cursor, or somewhere else.
func TestChangesDone(t *testing.T) {
	inside := 0
	for seed := range 40 {
		next := numbers(uint64(100 + seed))
		text, at := mixed(uint64(seed), 60), 0
		for range 60 {
			kind, count, region := theKinds[next(len(theKinds))], 1+next(2), next(len(text)+9)-4
			p := cut(text)
			lookAtOf(t, p, kind, count, at, region)
			if a := p.makes(kind, count, at, region); a.e == api.OK {
				text, _ = change.Apply(text, a.change.Edit)
				at = a.change.Cursor
			}
			if !cluster.Boundary(text, at) {
				inside++
			}
			if next(3) == 0 {
				at = next(len(text) + 1)
			}
		}
	}
	if inside == 0 {
		t.Error("P17.3: no change left the cursor within a cluster of the new text")
	}
}

// TestOtherFields has commands with a Text and a Mark, which no kind uses here.
func TestOtherFields(t *testing.T) {
	p := cut("ab c-d\nef")
	for _, kind := range append([]api.CommandKind{0, 1, 22, 29, 41, -1}, theKinds...) {
		for at := range len(p.text) + 1 {
			c, e := change.Of(api.Command{Kind: kind, Count: 2, Text: "other\n", Mark: 'x'}, p.text, at, 4)
			if got, want := (answer{c, e}), p.makes(kind, 2, at, 4); got != want {
				t.Errorf("P17.3: Of(%d) at %d beside a Text and a Mark: %v, want %v", kind, at, got, want)
			}
		}
	}
}

// TestTime makes changes of a long text: a text read from its beginning at each of a thousand steps, or all of its words listed at each change, would take many minutes.
func TestTime(t *testing.T) {
	begun := time.Now()
	text := strings.Repeat("e\u0301 line \u4e00\r\n", 1<<20)
	for at := 0; at <= len(text); at += len(text) / 300 {
		for _, kind := range theKinds {
			count := 1 + at%1000
			// What is between may be the half of the text, so that the region is near.
			c, e := change.Of(api.Command{Kind: kind, Count: count}, text, at, at+999)
			if e == api.OK && (c.Cursor < 0 || c.Cursor > len(text)) || e != api.OK && e != api.ErrEdge {
				t.Fatal("P17.3:", kind, at, c.Cursor, e)
			}
		}
	}
	if d := time.Since(begun); d > time.Minute {
		t.Error("layer 17: the changes take", d)
	}
}
