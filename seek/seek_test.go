package seek_test

import (
	"math"
	"strings"
	"testing"
	"time"
	"unsafe"

	"bodkin/api"
	"bodkin/metric"
	"bodkin/rope"
	"bodkin/seek"
)

// wrongNumbers are far out of every range; what is taken from them or added to them wraps round.
var wrongNumbers = []int{math.MinInt, math.MinInt + 1, math.MinInt + 2, -1 << 32, 1 << 32, math.MaxInt - 2, math.MaxInt - 1, math.MaxInt}

// parts are the fewest that have each thing a seam can change: units of all lengths and classes, whole and in part.
var parts = []string{"a", "\u0301", "\U000e0100", "\u4e00", "\r", "\n", "\u0085", "\xff", "\xcc", "\x81"}

// fillings stand between a seam and a text's end, so that more lies there than a summary keeps.
var fillings = []string{"a", "\u0301", "\u4e00", "\U0001f600", "\U000e0100", "\r", "\n", "\r\n", "\t", "\xff", "e\u0301\u4e00\xff\r\n"}

// eachText hands over every text of at most most of the parts.
func eachText(parts []string, most int, do func(string)) {
	var grow func(s string, n int)
	grow = func(s string, n int) {
		do(s)
		if n < most {
			for _, p := range parts {
				grow(s+p, n+1)
			}
		}
	}
	grow("", 0)
}

// ordinaryTexts are texts of several lines, and long ones; some end with LF, some don't.
func ordinaryTexts() []string {
	return []string{
		"", "\n", "\r\n", "a", "plain words, nothing else", "one\ntwo\r\nthree\rfour\n\r\n", "one\ntwo", "\n\n\n", "\r\n\r\n",
		"caf\u00e9 cafe\u0301 \u20ac5 \U0001f600!", "\u4e00\u4e8c\u4e09 \u304b\u3099 \uac00",
		"\U0001f44d\U0001f3fd \U0001f469\u200d\U0001f4bb\n", "a\tb\x1b[0m\u0085c\u009bd",
		"half \xe4\xb8 and \xc3\xc3\xa9 and \xff\u0301 and \xed\xa0\x80",
		"a" + strings.Repeat("\u0301", 30) + "b", "x\u4e00" + strings.Repeat("\u0301", 30) + "\n", strings.Repeat("\u0301", 30),
		"\u4e00" + strings.Repeat("\U000e0100", 12), "\n" + strings.Repeat("\u0301", 20) + "\xcc",
		strings.Repeat("\r", 20) + strings.Repeat("\n", 20), strings.Repeat("\r\n", 20), strings.Repeat("\xf0\x9f\x98", 9),
		strings.Repeat("e\u0301\u4e00\xff\t\r\n\u0301", 5),
	}
}

// numbers answers numbers that look mixed, the same ones at each run.
func numbers(seed uint64) func(below int) int {
	return func(below int) int {
		seed = seed*6364136223846793005 + 1442695040888963407
		return int(seed>>33) % below
	}
}

// long answers n bytes of a pattern that is laid again and again.
func long(pattern string, n int) string {
	return strings.Repeat(pattern, n/len(pattern)+1)[:n]
}

func checkShapes(t *testing.T, text string) {
	t.Helper()
	r := referenceOf(text)
	for _, x := range shapesOf(text) {
		r.check(t, x.tree, x.name)
	}
}

func TestOrdinaryTexts(t *testing.T) {
	for _, text := range ordinaryTexts() {
		checkShapes(t, text)
	}
}

func TestSmallTexts(t *testing.T) {
	eachText(parts, 3, func(text string) { checkShapes(t, text) })
}

// TestFourParts has a seam's neighbours on both sides with neighbours of their own.
func TestFourParts(t *testing.T) {
	eachText(parts, 4, func(text string) {
		r := referenceOf(text)
		r.check(t, halved(singleBytes(text)), "by halves")
	})
}

// TestThreePieces has pieces of all lengths between two others.
func TestThreePieces(t *testing.T) {
	for _, text := range []string{exampleText, "\u4e00\u0301\r\n\n\xe4\xb8", "\r\r\n\n\u0301\U0001f600\u0301", "a\u0301\u0301\u0301\u0301b\n"} {
		r := referenceOf(text)
		for i := 0; i <= len(text); i++ {
			for j := i; j <= len(text); j++ {
				for _, x := range layingsOf([]string{text[:i], text[i:j], text[j:]}) {
					r.check(t, x.tree, x.name)
				}
			}
		}
	}
}

// TestFarFromTheEnds has, on both sides of a seam, more than a summary keeps of it; four lengths, because that is the most bytes of a unit that the keeping cuts through.
func TestFarFromTheEnds(t *testing.T) {
	eachText(parts, 2, func(s string) {
		for _, f := range fillings {
			pad := strings.Repeat(f, 30)
			for n := 17; n <= 20; n++ {
				ahead, behind := pad[len(pad)-n:], pad[:n]
				r := referenceOf(ahead + s + behind)
				for cut := range len(s) + 1 {
					x := seek.Pair(seek.Plain(ahead+s[:cut]), seek.Plain(s[cut:]+behind))
					r.checkMiddle(t, x, "two pieces", n, n+len(s))
				}
				pieces := append(append([]string{ahead}, singleBytes(s)...), behind)
				r.checkMiddle(t, halved(pieces), "by halves", n, n+len(s))
			}
		}
	})
}

// TestLongClusters has clusters of far more bytes than a summary keeps, which many pieces share.
func TestLongClusters(t *testing.T) {
	for _, first := range []string{"", "a", "\u4e00", "\xff", "\n", "\x01", "\u0301"} {
		for _, mark := range []string{"\u0301", "\U000e0100"} {
			text := "x\u4e00\n" + first + strings.Repeat(mark, 25) + "\u4e00b\r\n"
			r := referenceOf(text)
			for _, size := range []int{1, 2, 3, 5, 17, 40} {
				var pieces []string
				for at := 0; at < len(text); at += size {
					pieces = append(pieces, text[at:min(at+size, len(text))])
				}
				for _, x := range layingsOf(pieces) {
					r.check(t, x.tree, x.name)
				}
			}
		}
	}
}

// TestCellsOfNone has clusters of no cells ahead of, between and behind others, so that a cell's number passes over them.
func TestCellsOfNone(t *testing.T) {
	eachText([]string{"\n", "\r\n", "a", "\u4e00"}, 5, func(text string) {
		r := referenceOf(text)
		r.check(t, halved(singleBytes(text)), "by halves")
		r.check(t, sparse(singleBytes(text)), "with nothing between")
	})
}

// TestRopes has ropes as New lays them, and as splits and edits leave them.
func TestRopes(t *testing.T) {
	next := numbers(3)
	for _, p := range []string{"a", "ab\n", "\r\n", "\u4e00", "e\u0301", "\u0301", "\xff", "\U0001F600", "\x01\u0301", "\xe4\xb8", "x\u4e00\u0301\r\n\xff\U0001F600\xcc", "0123456789" + strings.Repeat("\u0301", 40)} {
		for _, n := range []int{63, 64, 65, 130, 400} {
			text := long(p, n)
			whole := rope.New(text)
			referenceOf(text).check(t, whole.Tree(), "a rope")
			at := next(n)
			a, b, _ := whole.Split(at)
			r := referenceOf(text)
			r.check(t, rope.Concat(a, b).Tree(), "a rope laid together")
			r.check(t, seek.Pair(a.Tree(), b.Tree()), "two ropes")
			put := long("\u0301z\r", next(80))
			edited, _, _ := whole.Replace(at, 0, put)
			referenceOf(text[:at]+put+text[at:]).check(t, edited.Tree(), "a rope edited")
		}
	}
}

// TestMixedTrees lays pieces of all kinds together at random, in random shapes.
func TestMixedTrees(t *testing.T) {
	next := numbers(8)
	for range 300 {
		var trees []rope.Tree
		var text string
		for range 1 + next(12) {
			var s string
			for range next(4) {
				s += parts[next(len(parts))]
			}
			s = strings.Repeat(s, 1+next(9))
			switch next(4) {
			case 0:
				trees = append(trees, nil)
				continue
			case 1:
				trees = append(trees, rope.New(s).Tree())
			default:
				trees = append(trees, seek.Plain(s))
			}
			text += s
		}
		for len(trees) > 1 {
			n := next(len(trees) - 1)
			trees[n] = seek.Pair(trees[n], trees[n+1])
			trees = append(trees[:n+1], trees[n+2:]...)
		}
		referenceOf(text).check(t, trees[0], "mixed")
	}
}

func TestNothing(t *testing.T) {
	r := referenceOf("")
	r.check(t, nil, "nil")
	r.check(t, seek.Plain(""), "the empty text")
	r.check(t, seek.Pair(nil, nil), "two nil trees")
	r.check(t, rope.New("").Tree(), "an empty rope")
	var none *rope.Rope
	r.check(t, none.Tree(), "a nil rope")
}

// TestNilParts has a nil tree as the one part and as the other.
func TestNilParts(t *testing.T) {
	for _, text := range ordinaryTexts() {
		r := referenceOf(text)
		r.check(t, seek.Pair(nil, seek.Plain(text)), "nil ahead")
		r.check(t, seek.Pair(seek.Plain(text), nil), "nil behind")
	}
}

// TestWrittenDown writes down what the reference reckons elsewhere.
func TestWrittenDown(t *testing.T) {
	for _, x := range []struct {
		text                    string
		clusters, lines, cells  []int // at each offset
		cluster, line, cellsOwn []int // of each number
	}{
		{"ab", []int{0, 1, 2}, []int{0, 0, 0}, []int{0, 1, 2}, []int{0, 1, 2}, []int{0}, []int{0, 1}},
		{"\n\n", []int{0, 1, 2}, []int{0, 1, 2}, []int{0, 0, 0}, []int{0, 1, 2}, []int{0, 1, 2}, nil},
		{"a\n", []int{0, 1, 2}, []int{0, 0, 1}, []int{0, 1, 1}, []int{0, 1, 2}, []int{0, 2}, []int{0}},
		{"\r\r\n", []int{0, 1, 2, 2}, []int{0, 0, 0, 1}, []int{0, 2, 2, 2}, []int{0, 1, 3}, []int{0, 3}, []int{0, 0}},
		{"\n\u4e00", []int{0, 1, 2, 2, 2}, []int{0, 1, 1, 1, 1}, []int{0, 0, 0, 0, 2}, []int{0, 1, 4}, []int{0, 1}, []int{1, 1}},
		{"\u4e00\u0301b", []int{0, 1, 1, 1, 1, 1, 2}, []int{0, 0, 0, 0, 0, 0, 0}, []int{0, 0, 0, 0, 0, 2, 3}, []int{0, 5, 6}, []int{0}, []int{0, 0, 5}},
		{"\n\u0301", []int{0, 1, 2, 2}, []int{0, 1, 1, 1}, []int{0, 0, 0, 1}, []int{0, 1, 3}, []int{0, 1}, []int{1}},
		{"\xe4\xb8", []int{0, 1, 2}, []int{0, 0, 0}, []int{0, 1, 2}, []int{0, 1, 2}, []int{0}, []int{0, 1}},
	} {
		for _, s := range shapesOf(x.text) {
			for at := range x.clusters {
				if got, want := countsOf(s.tree, at), (counts{x.clusters[at], x.lines[at], x.cells[at]}); got != want {
					t.Errorf("P8.2 to P8.4, %s: %q at %d: %v, want %v", s.name, x.text, at, got, want)
				}
			}
			checkList(t, "P8.2: Cluster", seek.Cluster, s, x.text, x.cluster)
			checkList(t, "P8.3: Line", seek.Line, s, x.text, x.line)
			checkList(t, "P8.4: Cell", seek.Cell, s, x.text, x.cellsOwn)
		}
	}
}

// checkList holds the places of all numbers against a list, and refusals on both sides of it.
func checkList(t *testing.T, name string, call func(rope.Tree, int) (int, api.Errno), s shape, text string, want []int) {
	t.Helper()
	for n, at := range want {
		if got, e := call(s.tree, n); got != at || e != api.OK {
			t.Errorf("%s, %s: number %d of %q: %d, %v, want %d", name, s.name, n, text, got, e, at)
		}
	}
	for _, n := range append([]int{-1, len(want), len(want) + 1}, wrongNumbers...) {
		if got, e := call(s.tree, n); got != 0 || e != api.ErrRange {
			t.Errorf("%s, %s: number %d of %q: %d, %v", name, s.name, n, text, got, e)
		}
	}
}

// TestShapesAreAnsweredAlike holds trees of one text against each other, call by call.
func TestShapesAreAnsweredAlike(t *testing.T) {
	for _, text := range ordinaryTexts() {
		shapes := shapesOf(text)
		for n := -1; n <= 2*len(text)+1; n++ {
			c, p := countsOf(shapes[0].tree, n), placesOf(shapes[0].tree, n)
			for _, x := range shapes[1:] {
				if got := countsOf(x.tree, n); got != c {
					t.Fatalf("P8.5: %q at %d: %v whole, %v %s", text, n, c, got, x.name)
				}
				if got := placesOf(x.tree, n); got != p {
					t.Fatalf("P8.5: %q, number %d: %v whole, %v %s", text, n, p, got, x.name)
				}
			}
		}
	}
}

func TestPlain(t *testing.T) {
	for _, text := range append(ordinaryTexts(), long("some words \u4e00\r\n", 5000)) {
		x := seek.Plain(text)
		if x == nil {
			t.Fatalf("P8.1: Plain(%.99q) is nil", text)
		}
		if left, right, ok := x.Parts(); left != nil || right != nil || ok {
			t.Errorf("P8.1: Plain(%.99q) has the parts %v, %v, %v", text, left, right, ok)
		}
		if x.Text() != text || x.Sum() != metric.Measure(text) {
			t.Errorf("P8.1: Plain(%.99q) has the text %.99q, the Sum %v", text, x.Text(), x.Sum())
		}
	}
}

// checkKnot holds a knot against its two parts.
func checkKnot(t *testing.T, x, left, right rope.Tree) {
	t.Helper()
	a, b, ok := x.Parts()
	if a != left || b != right || !ok {
		t.Errorf("P8.1: the parts of a Pair are %v, %v, %v, want %v, %v", a, b, ok, left, right)
	}
	if want := metric.Join(left.Sum(), right.Sum()); x.Text() != "" || x.Sum() != want {
		t.Errorf("P8.1: a Pair has the text %q, the Sum %v, want %v", x.Text(), x.Sum(), want)
	}
}

func TestPair(t *testing.T) {
	for _, text := range ordinaryTexts() {
		for at := 0; at <= len(text); at++ {
			left, right := seek.Plain(text[:at]), rope.New(text[at:]).Tree()
			x := seek.Pair(left, right)
			checkKnot(t, x, left, right)
			if x.Sum() != metric.Measure(text) {
				t.Errorf("P8.1: the Sum of a Pair is %v, of %q", x.Sum(), text)
			}
			checkKnot(t, seek.Pair(x, x), x, x)
		}
	}
}

func TestPairOfNil(t *testing.T) {
	some := seek.Plain("some\n")
	for _, x := range []struct {
		left, right rope.Tree
		sum         api.Summary
	}{{nil, nil, api.Summary{}}, {some, nil, some.Sum()}, {nil, some, some.Sum()}} {
		p := seek.Pair(x.left, x.right)
		a, b, ok := p.Parts()
		if !ok || a == nil || b == nil || p.Text() != "" || p.Sum() != x.sum {
			t.Fatalf("P8.1: Pair(%v, %v): the parts %v, %v, %v, the Sum %v", x.left, x.right, a, b, ok, p.Sum())
		}
		checkStandIn(t, x.left, a)
		checkStandIn(t, x.right, b)
	}
}

// checkStandIn looks at what stands in the place of a part.
func checkStandIn(t *testing.T, given, got rope.Tree) {
	t.Helper()
	if given != nil {
		if got != given {
			t.Errorf("P8.1: %v stands in the place of %v", got, given)
		}
		return
	}
	if left, right, ok := got.Parts(); left != nil || right != nil || ok || got.Text() != "" || got.Sum() != (api.Summary{}) {
		t.Errorf("P8.1: in the place of nil stands a tree with %v, %v, %v, %q, %v", left, right, ok, got.Text(), got.Sum())
	}
}

// drawn writes a tree down.
func drawn(x rope.Tree) string {
	left, right, ok := x.Parts()
	if !ok {
		return "[" + x.Text() + "," + x.Sum().Head + "," + x.Sum().Tail + "]"
	}
	return "(" + x.Sum().Head + drawn(left) + drawn(right) + x.Sum().Tail + ")"
}

// TestTreesStayAsTheyAre asks trees again behind all that can be done with them.
func TestTreesStayAsTheyAre(t *testing.T) {
	for _, text := range ordinaryTexts() {
		for _, x := range shapesOf(text) {
			if x.tree == nil {
				continue
			}
			before, sum := drawn(x.tree), x.tree.Sum()
			one, two := seek.Pair(x.tree, seek.Plain("\u0301")), seek.Pair(seek.Plain("\xcc\r"), x.tree)
			for n := -1; n <= len(text)+1; n++ {
				countsOf(one, n)
				placesOf(two, n)
				countsOf(x.tree, n)
				placesOf(x.tree, n)
			}
			if drawn(x.tree) != before || x.tree.Sum() != sum {
				t.Fatalf("P8.1: a tree of %q changed, %s", text, x.name)
			}
		}
	}
}

// TestTextIsNotKept writes over the memory of a text that a leaf was made of.
func TestTextIsNotKept(t *testing.T) {
	for _, n := range []int{1, 15, 16, 17, 300} {
		want := long("a\u4e00\n", n)
		room := []byte(want)
		x := seek.Plain(unsafe.String(unsafe.SliceData(room), len(room)))
		for i := range room {
			room[i] = '#'
		}
		if x.Text() != want || x.Sum() != metric.Measure(want) {
			t.Errorf("R3: a leaf of %q became %q", want, x.Text())
		}
		referenceOf(want).check(t, x, "whole")
	}
}

// doubled lays a tree beside itself, again and again.
func doubled(x rope.Tree, times int) rope.Tree {
	for range times {
		x = seek.Pair(x, x)
	}
	return x
}

// TestGreatText has a text of more than a thousand million bytes, over which no call can go.
func TestGreatText(t *testing.T) {
	inTime := clock(t)
	r := referenceOf(exampleText)
	x, copies := doubled(seek.Plain(exampleText), 27), 1<<27
	size, clusters, lines, cells := len(r.text), len(r.clusters), len(r.feeds), len(r.owners)
	next := numbers(21)
	for round := range 2000 {
		n := next(copies)
		switch round {
		case 0:
			n = 0
		case 1:
			n = copies - 1
		}
		at, want := next(size+1), counts{clusters * n, lines * n, cells * n}
		more := r.countsAt(at)
		want = counts{want.clusters + more.clusters, want.lines + more.lines, want.cells + more.cells}
		if got := countsOf(x, size*n+at); got != want {
			t.Fatalf("P8.2 to P8.4: at %d: %v, want %v", size*n+at, got, want)
		}
		number := next(cells)
		checkFar(t, "P8.2: Cluster", seek.Cluster, x, clusters*n+number%clusters, size*n+r.clusters[number%clusters].At)
		checkFar(t, "P8.3: Line", seek.Line, x, lines*n+number%lines+1, size*n+r.feeds[number%lines]+1)
		checkFar(t, "P8.4: Cell", seek.Cell, x, cells*n+number, size*n+r.owners[number])
		inTime("a great text")
	}
	checkFar(t, "P8.2: Cluster", seek.Cluster, x, clusters*copies, size*copies)
}

func checkFar(t *testing.T, name string, call func(rope.Tree, int) (int, api.Errno), x rope.Tree, n, want int) {
	t.Helper()
	if got, e := call(x, n); got != want || e != api.OK {
		t.Fatalf("%s, number %d: %d, %v, want %d", name, n, got, e, want)
	}
}

// TestMuchOfNothing has so many empty leaves that no call can go over all of them.
func TestMuchOfNothing(t *testing.T) {
	none := doubled(seek.Plain(""), 100)
	referenceOf("").check(t, none, "much of nothing")
	x := seek.Pair(seek.Pair(none, seek.Plain("\r")), seek.Pair(none, seek.Pair(seek.Plain("\n\u4e00"), none)))
	referenceOf("\r\n\u4e00").check(t, x, "much of nothing between")
}

// TestDeepTrees has as many parts nested in one another as the document allows.
func TestDeepTrees(t *testing.T) {
	text := long("e\u0301\r\n\u4e00", 1<<16-1)
	r := referenceOf(text)
	for _, x := range []shape{{"to the left", leaning(singleBytes(text))}, {"to the right", leaningRight(singleBytes(text))}} {
		for _, at := range []int{0, 1, 30000, len(text) - 1, len(text)} {
			r.checkAt(t, x.tree, x.name, at)
		}
		for _, n := range []int{0, 1, 15000, len(r.feeds), len(r.clusters), len(r.owners) - 1, len(r.owners)} {
			r.checkNumber(t, x.tree, x.name, n)
		}
	}
}

// clock answers a function that ends the test where it has taken much longer than it should.
func clock(t *testing.T) func(what string) {
	begun := time.Now()
	return func(what string) {
		t.Helper()
		if time.Since(begun) > 60*time.Second {
			t.Fatal("P8.6: it takes too long:", what)
		}
	}
}

// TestLongRopeInGoodTime has so many calls on a long rope that none of them can go over all of it.
func TestLongRopeInGoodTime(t *testing.T) {
	inTime := clock(t)
	line := "a line of some words, e\u0301 and \u4e00\r\n"
	r := referenceOf(line)
	text := strings.Repeat(line, 1<<16)
	x := rope.New(text).Tree()
	next := numbers(17)
	for range 10000 {
		n, at := next(1<<16), next(len(line))
		more := r.countsAt(at)
		want := counts{len(r.clusters)*n + more.clusters, n + more.lines, len(r.owners)*n + more.cells}
		if got := countsOf(x, len(line)*n+at); got != want {
			t.Fatalf("P8.2 to P8.4: at %d: %v, want %v", len(line)*n+at, got, want)
		}
		k := next(len(r.clusters))
		checkFar(t, "P8.2: Cluster", seek.Cluster, x, len(r.clusters)*n+k, len(line)*n+r.clusters[k].At)
		checkFar(t, "P8.3: Line", seek.Line, x, n, len(line)*n)
		k = next(len(r.owners))
		checkFar(t, "P8.4: Cell", seek.Cell, x, len(r.owners)*n+k, len(line)*n+r.owners[k])
		inTime("calls on a long rope")
	}
}

// watched is a tree that counts how often something is asked of it or of what is below it.
type watched struct {
	rope.Tree
	asked *int
}

func (w watched) Sum() api.Summary {
	*w.asked++
	return w.Tree.Sum()
}

func (w watched) Parts() (left, right rope.Tree, ok bool) {
	*w.asked++
	left, right, ok = w.Tree.Parts()
	if ok {
		left, right = watched{left, w.asked}, watched{right, w.asked}
	}
	return left, right, ok
}

func (w watched) Text() string {
	*w.asked++
	return w.Tree.Text()
}

// TestWorkGrowsWithTheHeight counts what a call asks of a rope's tree.
func TestWorkGrowsWithTheHeight(t *testing.T) {
	for _, n := range []int{1000, 30000, 1000000} {
		r := rope.New(long("some words e\u0301 \u4e00\r\n", n))
		asked := 0
		x, most := watched{r.Tree(), &asked}, 30*(r.Height()+2)
		next := numbers(uint64(n))
		for range 300 {
			at := next(n + 1)
			for name, call := range map[string]func(){
				"Clusters": func() { seek.Clusters(x, at) },
				"Cluster":  func() { seek.Cluster(x, at) },
				"Lines":    func() { seek.Lines(x, at) },
				"Line":     func() { seek.Line(x, at/25) },
				"Cells":    func() { seek.Cells(x, at) },
				"Cell":     func() { seek.Cell(x, at) },
			} {
				asked = 0
				call()
				if asked > most {
					t.Fatalf("P8.6: %s asks %d times of a rope of height %d", name, asked, r.Height())
				}
			}
		}
	}
}

// strange is a tree of another's making, of which nothing need be true.
type strange struct {
	sum         api.Summary
	left, right rope.Tree
	knot        bool
	text        string
}

func (s strange) Sum() api.Summary                        { return s.sum }
func (s strange) Parts() (left, right rope.Tree, ok bool) { return s.left, s.right, s.knot }
func (s strange) Text() string                            { return s.text }

// TestStrangeTrees has trees whose summaries, texts and parts don't fit together: the calls end.
func TestStrangeTrees(t *testing.T) {
	sums := []api.Summary{
		{}, {Bytes: 5, Clusters: 5, Cells: 9, Newlines: 3}, {Bytes: -5, Clusters: -5, Cells: -9, Newlines: -3},
		{Bytes: math.MaxInt, Clusters: math.MaxInt, Cells: math.MaxInt, Newlines: math.MaxInt}, {Bytes: math.MinInt, Clusters: math.MinInt},
		{Bytes: 1, Clusters: 3, Cells: 3, Newlines: 3, Head: long("\u4e00\r\n", 50), Tail: long("\u0301", 50)}, metric.Measure("a\r\n"),
	}
	var trees []rope.Tree
	for _, sum := range sums {
		trees = append(trees, strange{sum: sum, knot: true}, strange{sum: sum, text: ""}, strange{sum: sum, text: "a\r\n\u4e00"}, strange{sum: sum, left: seek.Plain("x"), text: "\n"})
	}
	few := trees
	for _, sum := range sums {
		for n, one := range few {
			trees = append(trees, strange{sum: sum, left: one, right: few[len(few)-1-n], knot: true}, seek.Pair(one, few[len(few)-1-n]))
		}
	}
	for _, x := range trees {
		for _, n := range append([]int{-1, 0, 1, 2, 3, 4, 5, 9}, wrongNumbers...) {
			countsOf(x, n)
			placesOf(x, n)
		}
	}
}
