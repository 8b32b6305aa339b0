package gap_test

import (
	"math"
	"strings"
	"testing"
	"unsafe"

	"bodkin/api"
	"bodkin/gap"
	"bodkin/metric"
)

// pair is a buffer, and the plain text that is kept beside it.
type pair struct {
	b *gap.Buffer
	p *plain
}

func newPair(t *testing.T, s string, limit int) pair {
	t.Helper()
	b, e := gap.New(s, limit)
	if b == nil || e != api.OK {
		t.Fatalf("P6.1: New(%.99q, %d): %v, %v", s, limit, b, e)
	}
	return pair{b, &plain{text: s, place: len(s), limit: counted(limit)}}
}

// call is a call that works on a buffer.
type call struct {
	name    string
	at, cut int
	put     string
}

// onBuffer carries the call out by the package.
func (c call) onBuffer(b *gap.Buffer) (string, api.Errno) {
	switch c.name {
	case "Move":
		return "", b.Move(c.at)
	case "Insert":
		return "", b.Insert(c.at, c.put)
	case "Delete":
		return b.Delete(c.at, c.cut)
	case "Replace":
		return b.Replace(c.at, c.cut, c.put)
	}
	return "", b.Reset(c.put)
}

// onPlain carries the call out by the chapter's words.
func (c call) onPlain(p *plain) (string, api.Errno) {
	switch c.name {
	case "Move":
		return "", p.move(c.at)
	case "Insert":
		return p.replace(c.at, 0, c.put)
	case "Delete":
		return p.replace(c.at, c.cut, "")
	case "Replace":
		return p.replace(c.at, c.cut, c.put)
	}
	return "", p.reset(c.put)
}

// do carries the call out on both, and holds what they answer and the capacity against each other.
func (x pair) do(t *testing.T, c call) {
	t.Helper()
	before, capacity := *x.p, x.b.Cap()
	out, e := c.onBuffer(x.b)
	wantOut, want := c.onPlain(x.p)
	if out != wantOut || e != want {
		t.Fatalf("P6.3: %.99v behind %.99v: %.99q, %v, want %.99q, %v", c, before, out, e, wantOut, want)
	}
	if want != api.OK && x.b.Cap() != capacity {
		t.Fatalf("P6.3: %.99v was refused, and the capacity went from %d to %d", c, capacity, x.b.Cap())
	}
	checkLaw(t, x.b)
	if x.b.Len() != len(x.p.text) || x.b.Place() != x.p.place || x.b.Limit() != x.p.limit {
		t.Fatalf("P6.3: %.99v behind %.99v: length %d, place %d, limit %d, want %.99v", c, before, x.b.Len(), x.b.Place(), x.b.Limit(), *x.p)
	}
	if got := x.b.Text(); got != x.p.text {
		t.Fatalf("P6.3: %.99v behind %.99v: the text is %.99q, want %.99q", c, before, got, x.p.text)
	}
}

func checkLaw(t *testing.T, b *gap.Buffer) {
	t.Helper()
	if n := b.Len(); b.Cap() < n || b.Cap() > 2*max(n, 64) {
		t.Fatalf("P6.5: length %d, capacity %d", n, b.Cap())
	}
}

// look holds all that is seen of the buffer against the plain text, at the offsets given.
func (x pair) look(t *testing.T, offsets []int, parts []string) {
	t.Helper()
	capacity := x.b.Cap()
	x.lookAtWhole(t)
	for _, from := range offsets {
		x.lookAt(t, from, parts)
		for _, to := range offsets {
			x.lookBetween(t, from, to)
		}
	}
	x.lookAtWhole(t)
	if x.b.Cap() != capacity {
		t.Fatalf("P6.2: looking made the capacity %d of %d", x.b.Cap(), capacity)
	}
}

func (x pair) lookAtWhole(t *testing.T) {
	t.Helper()
	if x.b.Len() != len(x.p.text) || x.b.Place() != x.p.place || x.b.Limit() != x.p.limit || x.b.Text() != x.p.text {
		t.Fatalf("P6.2: length %d, place %d, limit %d, text %.99q, want %.99v", x.b.Len(), x.b.Place(), x.b.Limit(), x.b.Text(), *x.p)
	}
	ahead, behind := x.b.Halves()
	if ahead != x.p.text[:x.p.place] || behind != x.p.text[x.p.place:] {
		t.Fatalf("P6.2: Halves: %.99q, %.99q of %.99v", ahead, behind, *x.p)
	}
	checkLaw(t, x.b)
}

func (x pair) lookAt(t *testing.T, at int, parts []string) {
	t.Helper()
	got, e := x.b.Byte(at)
	if want, wantE := x.p.byteAt(at); got != want || e != wantE {
		t.Fatalf("P6.2: Byte(%d) of %.99v: %q, %v, want %q, %v", at, *x.p, got, e, want, wantE)
	}
	for _, part := range parts {
		if got, want := x.b.Index(part, at), x.p.index(part, at); got != want {
			t.Fatalf("P6.2: Index(%q, %d) of %.99v: %d, want %d", part, at, *x.p, got, want)
		}
	}
}

func (x pair) lookBetween(t *testing.T, from, to int) {
	t.Helper()
	s, e := x.b.Slice(from, to)
	if want, wantE := x.p.slice(from, to); s != want || e != wantE {
		t.Fatalf("P6.2: Slice(%d, %d) of %.99v: %.99q, %v, want %.99q, %v", from, to, *x.p, s, e, want, wantE)
	}
	m, e := x.b.Measure(from, to)
	if want, wantE := x.p.measure(from, to); m != want || e != wantE {
		t.Fatalf("P6.2: Measure(%d, %d) of %.99v: %v, %v, want %v, %v", from, to, *x.p, m, e, want, wantE)
	}
}

// wrongNumbers are far out of every range; sums of two of them wrap round.
var wrongNumbers = []int{math.MinInt, math.MinInt + 1, math.MinInt + 2, -1 << 32, 1 << 32, math.MaxInt - 2, math.MaxInt - 1, math.MaxInt}

// near lists the offsets of a text of n bytes with some beside them, and the wrong numbers.
func near(n int) []int {
	list := append([]int(nil), wrongNumbers...)
	for at := -2; at <= n+2; at++ {
		list = append(list, at)
	}
	return list
}

// calls lists a call of every kind at every offset, for a text of n bytes: with replacements that are longer, shorter and of the same length.
func calls(n int, puts []string) []call {
	var list []call
	for at := -1; at <= n+1; at++ {
		list = append(list, call{name: "Move", at: at})
		for _, put := range puts {
			list = append(list, call{name: "Insert", at: at, put: put})
		}
		for cut := -1; cut <= n-at+1; cut++ {
			list = append(list, call{name: "Delete", at: at, cut: cut})
			for _, put := range puts {
				list = append(list, call{name: "Replace", at: at, cut: cut, put: put})
			}
		}
	}
	for _, put := range puts {
		list = append(list, call{name: "Reset", put: put})
	}
	return list
}

// TestNew has texts shorter than their limits, as long and longer, and limits that count as others.
func TestNew(t *testing.T) {
	for _, s := range []string{"", "a", "ab", "a\xe4\xb8\n", strings.Repeat("x", 63), strings.Repeat("x", 64), strings.Repeat("x", 65), strings.Repeat("yz", 500)} {
		for _, limit := range append(near(len(s)), 1<<30-1, 1<<30, 1<<30+1) {
			if len(s) > counted(limit) {
				if b, e := gap.New(s, limit); b != nil || e != api.ErrFull {
					t.Errorf("P6.1: New of %d bytes with the limit %d: %v, %v", len(s), limit, b, e)
				}
				continue
			}
			newPair(t, s, limit).look(t, []int{-1, 0, 1, len(s) - 1, len(s), len(s) + 1}, []string{"", "a", s})
		}
	}
}

func TestLimitWrittenDown(t *testing.T) {
	for _, x := range [][2]int{
		{math.MinInt, 0}, {-1, 0}, {0, 0}, {1, 1}, {64, 64}, {1073741823, 1073741823}, {1073741824, 1073741824}, {1073741825, 1073741824}, {math.MaxInt, 1073741824},
	} {
		if b, e := gap.New("", x[0]); e != api.OK || b.Limit() != x[1] {
			t.Errorf("P6.2: the limit %d counts as %d, %v, want %d", x[0], b.Limit(), e, x[1])
		}
	}
}

// TestMostBytes has texts a byte longer than the greatest limit. They are only ever asked for their length, so that no memory is behind them.
func TestMostBytes(t *testing.T) {
	long := unsafe.String(unsafe.SliceData(make([]byte, 1<<30+1)), 1<<30+1)
	if b, e := gap.New(long, math.MaxInt); b != nil || e != api.ErrFull {
		t.Error("P6.1: New of a text longer than MostBytes:", e)
	}
	x := newPair(t, "ab", math.MaxInt)
	x.do(t, call{name: "Reset", put: long})
	x.do(t, call{name: "Insert", at: 1, put: long[:1<<30-1]})
	x.do(t, call{name: "Insert", at: 3, put: long})
	x.do(t, call{name: "Replace", at: 0, cut: 1, put: long[1:]})
	x.do(t, call{name: "Replace", at: 0, cut: 2, put: long})
	x.look(t, near(2), []string{"", "b", long})
}

// TestTwoCalls carries out two calls, one behind the other, in all ways that short texts and low limits have.
func TestTwoCalls(t *testing.T) {
	puts := []string{"", "x", "yz", "vwxyz"}
	for _, start := range []string{"", "a", "abc"} {
		for limit := len(start); limit <= 5; limit++ {
			for _, first := range calls(len(start), puts) {
				x := newPair(t, start, limit)
				x.do(t, first)
				x.look(t, near(len(x.p.text)), []string{"", "x", "yz", "cx", "za"})
				for _, second := range calls(len(x.p.text), puts) {
					y := newPair(t, start, limit)
					y.do(t, first)
					y.do(t, second)
					y.lookAtWhole(t)
				}
			}
		}
	}
}

// numbers answers numbers that look mixed, the same ones at each run.
func numbers(seed uint64) func(below int) int {
	return func(below int) int {
		seed = seed*6364136223846793005 + 1442695040888963407
		return int(seed>>33) % below
	}
}

// someCall answers a call of any kind, mostly with numbers in their ranges.
func someCall(next func(int) int, n, most int) call {
	c := call{name: []string{"Move", "Insert", "Delete", "Replace", "Replace", "Reset"}[next(6)]}
	if c.name == "Reset" && next(8) > 0 {
		c.name = "Insert"
	}
	c.at = next(n + 1)
	c.cut = next(min(n-c.at, most) + 1)
	c.put = strings.Repeat("a\u4e00\u0301\r\n\xff", 2+most/9)[next(9):][:next(most+1)]
	switch next(40) {
	case 0:
		c.at = wrongNumbers[next(len(wrongNumbers))]
	case 1:
		c.cut = wrongNumbers[next(len(wrongNumbers))]
	case 2:
		c.at, c.cut = n+1, 0
	case 3:
		c.cut = n - c.at + 1
	}
	return c
}

// TestManyCalls has long runs of calls of every kind on one buffer, with all that is seen behind each of them.
func TestManyCalls(t *testing.T) {
	for seed, limit := range []int{0, 1, 7, 60, 64, 65, 200, 1000, math.MaxInt} {
		for _, most := range []int{2, 20, 150} {
			next := numbers(uint64(1000*seed + most))
			x := newPair(t, "", limit)
			for range 400 {
				n := len(x.p.text)
				x.do(t, someCall(next, n, most))
				n = len(x.p.text)
				x.look(t, []int{-1, 0, next(n + 1), x.p.place - 1, x.p.place, x.p.place + 1, n - 1, n, n + 1}, []string{"", "a", "\r\n", "\xff\u4e00", "\n\xffa\u4e00\u0301\r\n\xff"})
			}
		}
	}
}

// TestWrongNumbers has each pair of numbers near the text's and far from them, at the gap's places.
func TestWrongNumbers(t *testing.T) {
	for _, place := range []int{0, 2, 5} {
		for _, at := range near(5) {
			for _, cut := range near(5) {
				for _, put := range []string{"", "xy"} {
					for _, name := range []string{"Move", "Insert", "Delete", "Replace"} {
						x := newPair(t, "abcde", 6)
						x.do(t, call{name: "Move", at: place})
						x.do(t, call{name: name, at: at, cut: cut, put: put})
						x.lookAtWhole(t)
					}
				}
			}
		}
	}
}

// TestRefusalsWrittenDown has what is refused, and by which error where both apply.
func TestRefusalsWrittenDown(t *testing.T) {
	for _, x := range []struct {
		call call
		want api.Errno
	}{
		{call{name: "Move", at: -1}, api.ErrRange}, {call{name: "Move", at: 6}, api.ErrRange}, {call{name: "Move", at: math.MinInt}, api.ErrRange},
		{call{name: "Insert", at: -1, put: "x"}, api.ErrRange}, {call{name: "Insert", at: 6, put: "x"}, api.ErrRange},
		{call{name: "Insert", at: 6, put: "xyz"}, api.ErrRange}, {call{name: "Insert", at: 5, put: "xyz"}, api.ErrFull}, {call{name: "Insert", at: 0, put: "xyz"}, api.ErrFull},
		{call{name: "Delete", at: -1, cut: 1}, api.ErrRange}, {call{name: "Delete", at: 1, cut: -1}, api.ErrRange}, {call{name: "Delete", at: 5, cut: 1}, api.ErrRange},
		{call{name: "Delete", at: 6, cut: 0}, api.ErrRange}, {call{name: "Delete", at: 6, cut: -1}, api.ErrRange}, {call{name: "Delete", at: 1, cut: math.MaxInt}, api.ErrRange},
		{call{name: "Delete", at: math.MaxInt, cut: math.MaxInt}, api.ErrRange}, {call{name: "Delete", at: math.MinInt, cut: math.MinInt}, api.ErrRange},
		{call{name: "Delete", at: math.MaxInt, cut: math.MinInt}, api.ErrRange}, {call{name: "Delete", at: 3, cut: math.MinInt}, api.ErrRange},
		{call{name: "Replace", at: 0, cut: 6, put: "xyzxyzxyz"}, api.ErrRange}, {call{name: "Replace", at: 0, cut: 5, put: "xyzxyzxy"}, api.ErrFull},
		{call{name: "Replace", at: 2, cut: 1, put: "xyzx"}, api.ErrFull}, {call{name: "Replace", at: 2, cut: math.MaxInt - 1, put: "xyzx"}, api.ErrRange},
		{call{name: "Reset", put: "xyzxyzxy"}, api.ErrFull},
	} {
		for place := 0; place <= 5; place++ {
			b, _ := gap.New("abcde", 7)
			b.Move(place)
			capacity := b.Cap()
			if out, e := x.call.onBuffer(b); out != "" || e != x.want {
				t.Errorf("P6.3: %v: %q, %v, want %v", x.call, out, e, x.want)
			}
			ahead, behind := b.Halves()
			if b.Text() != "abcde" || b.Place() != place || ahead != "abcde"[:place] || behind != "abcde"[place:] || b.Cap() != capacity || b.Limit() != 7 {
				t.Errorf("P6.3: %v was refused, and is seen: %q, place %d, capacity %d of %d, limit %d", x.call, b.Text(), b.Place(), b.Cap(), capacity, b.Limit())
			}
		}
	}
}

// TestWorkWrittenDown has one buffer with a replacement of each length, one behind the other.
func TestWorkWrittenDown(t *testing.T) {
	b, _ := gap.New("one two", 12)
	for _, x := range []struct {
		call          call
		out           string
		ahead, behind string
	}{
		{call{name: "Move", at: 3}, "", "one", " two"},
		{call{name: "Replace", at: 0, cut: 3, put: "1"}, "one", "1", " two"},
		{call{name: "Replace", at: 2, cut: 3, put: "three"}, "two", "1 three", ""},
		{call{name: "Replace", at: 1, cut: 1, put: "-"}, " ", "1-", "three"},
		{call{name: "Insert", at: 0, put: "ab"}, "", "ab", "1-three"},
		{call{name: "Insert", at: 9, put: "cde"}, "", "ab1-threecde", ""},
		{call{name: "Delete", at: 3, cut: 6}, "-three", "ab1", "cde"},
		{call{name: "Replace", at: 1, cut: 4, put: "\xe4\xb8\x80"}, "b1cd", "a\xe4\xb8\x80", "e"},
		{call{name: "Insert", at: 2}, "", "a\xe4", "\xb8\x80e"},
		{call{name: "Delete", at: 5}, "", "a\xe4\xb8\x80e", ""},
		{call{name: "Replace", at: 0, cut: 5, put: "0123456789AB"}, "a\xe4\xb8\x80e", "0123456789AB", ""},
		{call{name: "Delete", at: 0, cut: 12}, "0123456789AB", "", ""},
		{call{name: "Reset", put: "again"}, "", "again", ""},
		{call{name: "Move"}, "", "", "again"},
		{call{name: "Reset", put: ""}, "", "", ""},
	} {
		if out, e := x.call.onBuffer(b); out != x.out || e != api.OK {
			t.Errorf("P6.3: %v: %q, %v, want %q", x.call, out, e, x.out)
		}
		ahead, behind := b.Halves()
		if ahead != x.ahead || behind != x.behind || b.Place() != len(x.ahead) || b.Text() != x.ahead+x.behind {
			t.Errorf("P6.3: %v: %q, %q, place %d, want %q, %q", x.call, ahead, behind, b.Place(), x.ahead, x.behind)
		}
	}
}

// eachText hands over every text of at most most of the letters.
func eachText(letters string, most int, do func(string)) {
	var grow func(s string)
	grow = func(s string) {
		do(s)
		if len(s) < most {
			for n := range len(letters) {
				grow(s + letters[n:n+1])
			}
		}
	}
	grow("")
}

// TestIndex asks for every part of every short text, over the gap at each of its places.
func TestIndex(t *testing.T) {
	var parts []string
	eachText("ab", 3, func(s string) { parts = append(parts, s) })
	eachText("ab", 6, func(s string) {
		x := newPair(t, s, 6)
		for place := 0; place <= len(s); place++ {
			x.do(t, call{name: "Move", at: place})
			for _, from := range near(len(s)) {
				x.lookAt(t, from, parts)
			}
		}
	})
}

func TestIndexWrittenDown(t *testing.T) {
	for _, x := range []struct {
		part       string
		from, want int
	}{
		{"", -1, 0}, {"", 0, 0}, {"", 5, 5}, {"", 10, 10}, {"", 11, -1}, {"", math.MinInt, 0}, {"", math.MaxInt, -1},
		{"abra", 0, 0}, {"abra", 1, 6}, {"abra", 6, 6}, {"abra", 7, -1}, {"abra", -9, 0}, {"a", 4, 5}, {"a", 9, 9}, {"a", 10, -1}, {"a", 11, -1}, {"a", math.MaxInt, -1},
		{"abracaabra", 0, 0}, {"abracaabra", 1, -1}, {"abracaabrac", 0, -1}, {"raca", 0, 2}, {"caab", math.MinInt, 4}, {"z", 0, -1}, {"ra\x00", 0, -1},
	} {
		for place := 0; place <= 10; place++ {
			b, _ := gap.New("abracaabra", 99)
			b.Move(place)
			if got := b.Index(x.part, x.from); got != x.want {
				t.Errorf("P6.2: Index(%q, %d) with the gap at %d: %d, want %d", x.part, x.from, place, got, x.want)
			}
		}
	}
}

// TestMeasureWrittenDown has clusters that the gap lies within, and a range that cuts one through.
func TestMeasureWrittenDown(t *testing.T) {
	s := "a\u0301\u4e00\r\n\xff"
	for _, x := range []struct {
		from, to int
		want     api.Summary
	}{
		{0, 9, api.Summary{Bytes: 9, Units: 6, Clusters: 4, Cells: 4, Newlines: 1, Head: s, Tail: s}},
		{0, 6, api.Summary{Bytes: 6, Units: 3, Clusters: 2, Cells: 3, Head: s[:6], Tail: s[:6]}},
		{4, 7, api.Summary{Bytes: 3, Units: 3, Clusters: 3, Cells: 4, Head: s[4:7], Tail: s[4:7]}},
		{3, 3, api.Summary{}},
	} {
		for place := 0; place <= len(s); place++ {
			b, _ := gap.New(s, 99)
			b.Move(place)
			if got, e := b.Measure(x.from, x.to); got != x.want || e != api.OK {
				t.Errorf("P6.2: Measure(%d, %d) with the gap at %d: %+v, %v, want %+v", x.from, x.to, place, got, e, x.want)
			}
		}
	}
}

// TestCapacityByteByByte lets a text grow and shrink by single bytes, over all lengths near the law's least one and many times that.
func TestCapacityByteByByte(t *testing.T) {
	for _, limit := range []int{0, 1, 63, 64, 65, 96, 128, 129, 3000, math.MaxInt} {
		for _, where := range []int{0, 2, 1} {
			b, _ := gap.New("", limit)
			at := func() int { return b.Len() * where / 2 }
			for range 2 {
				for range min(counted(limit), 3000) {
					if e := b.Insert(at(), "x"); e != api.OK {
						t.Fatalf("P6.3: Insert at a length of %d: %v", b.Len(), e)
					}
					checkLaw(t, b)
				}
				for b.Len() > 0 {
					if out, e := b.Delete(max(at()-1, 0), 1); out != "x" || e != api.OK {
						t.Fatalf("P6.3: Delete at a length of %d: %q, %v", b.Len(), out, e)
					}
					checkLaw(t, b)
				}
			}
		}
	}
}

// TestCapacityAtOnce goes from each of some lengths to each other one in one call.
func TestCapacityAtOnce(t *testing.T) {
	lengths := []int{0, 1, 31, 32, 33, 63, 64, 65, 95, 96, 97, 127, 128, 129, 192, 193, 256, 257, 1000, 5000}
	for _, from := range lengths {
		for _, to := range lengths {
			for _, limit := range []int{max(from, to), max(from, to) + 1, math.MaxInt} {
				put := strings.Repeat("y", to)
				for _, c := range []call{{name: "Reset", put: put}, {name: "Replace", cut: from, put: put}, {name: "Delete", at: to, cut: from - to}, {name: "Insert", at: from / 2, put: put[:max(to-from, 0)]}} {
					x := newPair(t, strings.Repeat("x", from), limit)
					checkLaw(t, x.b)
					x.do(t, c)
					x.do(t, call{name: "Move", at: x.b.Len() / 2})
					x.lookAtWhole(t)
					checkLaw(t, x.b.Clone())
				}
			}
		}
	}
}

// TestClone lets a clone and its original go their own ways, both ways round.
func TestClone(t *testing.T) {
	for _, s := range []string{"", "abc", strings.Repeat("long ", 60)} {
		for _, limit := range []int{len(s), len(s) + 9, math.MaxInt} {
			for place := 0; place <= len(s); place += 1 + len(s)/7 {
				for _, c := range []call{{name: "Move", at: len(s) / 3}, {name: "Reset", put: s[len(s)/2:]}, {name: "Replace", cut: len(s) / 2, put: strings.Repeat("Z", len(s)/2)}, {name: "Insert", at: place, put: "+"}, {name: "Delete", at: place / 2, cut: place - place/2}} {
					for _, cloneWorks := range []bool{false, true} {
						x := newPair(t, s, limit)
						x.do(t, call{name: "Move", at: place})
						same := *x.p
						y := pair{x.b.Clone(), &same}
						if y.b == nil || y.b == x.b {
							t.Fatalf("P6.4: the clone of %p is %p", x.b, y.b)
						}
						if cloneWorks {
							x, y = y, x
						}
						x.do(t, c)
						y.lookAtWhole(t)
						y.do(t, call{name: "Replace", at: 0, cut: len(s), put: strings.Repeat("o", len(s))})
						x.look(t, []int{0, len(x.p.text)}, []string{"Z"})
					}
				}
			}
		}
	}
}

// TestCloneOfClone asks that a clone is like a buffer that was made anew.
func TestCloneOfClone(t *testing.T) {
	x := newPair(t, "", 300)
	next := numbers(7)
	for range 600 {
		x.do(t, someCall(next, len(x.p.text), 90))
		x.b = x.b.Clone()
		x.lookAtWhole(t)
	}
}

// TestNothing has every call on no buffer, on the zero Buffer and on its clone.
func TestNothing(t *testing.T) {
	for name, b := range map[string]*gap.Buffer{"nil": nil, "the zero Buffer": {}, "its clone": new(gap.Buffer).Clone()} {
		x := pair{b, &plain{}}
		for _, at := range near(0) {
			x.do(t, call{name: "Move", at: at})
			for _, put := range []string{"", "x"} {
				x.do(t, call{name: "Insert", at: at, put: put})
				x.do(t, call{name: "Reset", put: put})
				for _, cut := range near(0) {
					x.do(t, call{name: "Delete", at: at, cut: cut})
					x.do(t, call{name: "Replace", at: at, cut: cut, put: put})
				}
			}
		}
		x.look(t, near(0), []string{"", "x"})
		if b.Cap() != 0 {
			t.Errorf("P6.6: the capacity of %s: %d", name, b.Cap())
		}
	}
}

func TestNothingWrittenDown(t *testing.T) {
	for name, b := range map[string]*gap.Buffer{"nil": nil, "the zero Buffer": {}} {
		for _, x := range []struct {
			call call
			want api.Errno
		}{
			{call{name: "Move"}, api.OK}, {call{name: "Insert"}, api.OK}, {call{name: "Delete"}, api.OK}, {call{name: "Replace"}, api.OK}, {call{name: "Reset"}, api.OK},
			{call{name: "Move", at: 1}, api.ErrRange}, {call{name: "Move", at: -1}, api.ErrRange}, {call{name: "Insert", at: 1, put: "x"}, api.ErrRange},
			{call{name: "Insert", put: "x"}, api.ErrFull}, {call{name: "Delete", cut: 1}, api.ErrRange}, {call{name: "Replace", cut: 1, put: "x"}, api.ErrRange},
			{call{name: "Replace", put: "x"}, api.ErrFull}, {call{name: "Reset", put: "x"}, api.ErrFull},
		} {
			if out, e := x.call.onBuffer(b); out != "" || e != x.want {
				t.Errorf("P6.6: %v of %s: %q, %v, want %v", x.call, name, out, e, x.want)
			}
			ahead, behind := b.Halves()
			if b.Len() != 0 || b.Cap() != 0 || b.Place() != 0 || b.Limit() != 0 || b.Text() != "" || ahead != "" || behind != "" {
				t.Errorf("P6.6: %v changed %s", x.call, name)
			}
		}
		if b.Index("", 0) != 0 || b.Index("", -1) != 0 || b.Index("", math.MinInt) != 0 || b.Index("", 1) != -1 || b.Index("x", 0) != -1 {
			t.Errorf("P6.6: Index of %s", name)
		}
		if s, e := b.Slice(0, 0); s != "" || e != api.OK {
			t.Errorf("P6.6: Slice(0, 0) of %s: %q, %v", name, s, e)
		}
		if s, e := b.Slice(0, 1); s != "" || e != api.ErrRange {
			t.Errorf("P6.6: Slice(0, 1) of %s: %q, %v", name, s, e)
		}
		if c, e := b.Byte(0); c != 0 || e != api.ErrRange {
			t.Errorf("P6.6: Byte(0) of %s: %q, %v", name, c, e)
		}
		if m, e := b.Measure(0, 0); m != metric.Measure("") || e != api.OK {
			t.Errorf("P6.6: Measure(0, 0) of %s: %v, %v", name, m, e)
		}
	}
	var none *gap.Buffer
	if none.Clone() != nil {
		t.Error("P6.6: the clone of nil")
	}
	if c := new(gap.Buffer).Clone(); c == nil || c.Len() != 0 || c.Limit() != 0 || c.Insert(0, "x") != api.ErrFull {
		t.Error("P6.4: the clone of the zero Buffer")
	}
}

// TestAnswersStay keeps all that a buffer answered while it is worked at, and looks at it in the end.
func TestAnswersStay(t *testing.T) {
	type kept struct{ got, copied string }
	var list []kept
	keep := func(texts ...string) {
		for _, s := range texts {
			list = append(list, kept{s, string(append([]byte(nil), s...))})
		}
	}
	x := newPair(t, strings.Repeat("first ", 20), 500)
	next := numbers(3)
	for range 500 {
		n := x.b.Len()
		ahead, behind := x.b.Halves()
		piece, _ := x.b.Slice(n/4, n/2)
		m, _ := x.b.Measure(n/3, n)
		keep(x.b.Text(), ahead, behind, piece, m.Head, m.Tail)
		c := someCall(next, n, 100)
		out, _ := c.onBuffer(x.b)
		keep(out)
		x.b.Replace(0, x.b.Len(), strings.Repeat(string(rune('a'+next(26))), x.b.Len()))
	}
	for _, k := range list {
		if k.got != k.copied {
			t.Fatalf("R3: what was answered as %.99q is %.99q now", k.copied, k.got)
		}
	}
}

// TestArgumentsAreNotKept writes over the memory of texts that a buffer was handed.
func TestArgumentsAreNotKept(t *testing.T) {
	room := []byte("handed in")
	s := unsafe.String(unsafe.SliceData(room), len(room))
	made, _ := gap.New(s, 99)
	put, _ := gap.New("[]", 99)
	put.Insert(1, s)
	replaced, _ := gap.New("[--]", 99)
	replaced.Replace(1, 2, s)
	reset, _ := gap.New("", 99)
	reset.Reset(s)
	for n := range room {
		room[n] = '#'
	}
	if made.Text() != "handed in" || put.Text() != "[handed in]" || replaced.Text() != "[handed in]" || reset.Text() != "handed in" {
		t.Errorf("R3: texts were kept: %q, %q, %q, %q", made.Text(), put.Text(), replaced.Text(), reset.Text())
	}
}

// TestArgumentsStay hands in memory with spare room, and works on.
func TestArgumentsStay(t *testing.T) {
	room := []byte("handed in, and more")
	s := unsafe.String(unsafe.SliceData(room), 9)
	b, _ := gap.New(s, 99)
	b.Insert(3, s)
	b.Replace(0, 9, s)
	b.Delete(0, 4)
	b.Reset(s)
	b.Index(s, 0)
	b.Replace(0, 9, "overwritten")
	if string(room) != "handed in, and more" {
		t.Errorf("R3: what was handed in became %q", room)
	}
}
