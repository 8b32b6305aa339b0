package unit_test

import (
	"math"
	"slices"
	"strings"
	"testing"
	"time"

	"bodkin/api"
	"bodkin/unit"
)

var bad = api.Unit{Char: -1, Size: 1}

// edgeChars are the least and the greatest character of each length, and those beside the numbers that are none.
var edgeChars = []int{0, 'a', 0x7F, 0x80, 0xE9, 0x7FF, 0x800, 0x20AC, 0xD7FF, 0xE000, 0xFFFD, 0xFFFF, 0x10000, 0x1F600, 0x10FFFF}

// edgeBytes are the first and the last byte of each kind that an encoding's rules tell apart.
var edgeBytes = []byte{0x00, 'a', 0x7F, 0x80, 0x8F, 0x90, 0x9F, 0xA0, 0xBF, 0xC0, 0xC1, 0xC2, 0xDF, 0xE0, 0xE1, 0xEC, 0xED, 0xEE, 0xEF, 0xF0, 0xF1, 0xF3, 0xF4, 0xF5, 0xF7, 0xF8, 0xFF}

// someTexts are ordinary texts, and such as the chapter's edges make.
func someTexts() []string {
	texts := []string{
		"", "a", "plain words\n", "caf\xc3\xa9 \xe2\x82\xac5 \xf0\x9f\x98\x80!",
		"\x80", "\xbf\xbf", "\xff\xfe", "\xc3", "\xe2\x82", "\xf0\x9f\x98",
		"\xc0\x80", "\xc1\xbf", "\xe0\x80\x80", "\xe0\x9f\xbf", "\xf0\x80\x80\x80", "\xf0\x8f\xbf\xbf",
		"\xed\xa0\x80", "\xed\xbf\xbf", "\xf4\x90\x80\x80", "\xf7\xbf\xbf\xbf", "\xf8\x88\x80\x80\x80",
		"\xe2\xe2\x82\xac", "\xf0\x9f\xc3\xa9", "\xf0\x9f\x98\xf0\x9f\x98\x80", "\xc3\xc3\xa9\xa9", "\xe2\x82a\x82",
		"\xf0\x9f\x98\x80\x80", "\xef\xbf\xbd\xef\xbf", "x\xcc\x81\r\n\xe4\xb8\x80",
	}
	for _, c := range edgeChars {
		e := encoding(c)
		texts = append(texts, e, e+e, "a"+e+"\xff", e[:len(e)-1], e[1:], "\xf0"+e)
	}
	return texts
}

// eachText hands over every text of at most three edge bytes, and of four that begin like an encoding of three or four.
func eachText(do func(string)) {
	var grow func(s string)
	grow = func(s string) {
		do(s)
		if len(s) == 4 || len(s) == 3 && s[0] < 0xE0 {
			return
		}
		for _, b := range edgeBytes {
			grow(s + string([]byte{b}))
		}
	}
	grow("")
}

// someOffsets are all within and around s, and the least and the greatest int.
func someOffsets(s string) []int {
	list := []int{math.MinInt, math.MinInt + 1, math.MinInt32, math.MaxInt32, math.MaxInt - 1, math.MaxInt}
	for i := -5; i <= len(s)+5; i++ {
		list = append(list, i)
	}
	return list
}

func asked(s string, i int) places {
	p := places{boundary: unit.Boundary(s, i), down: unit.Down(s, i), up: unit.Up(s, i), next: unit.Next(s, i), prev: unit.Prev(s, i)}
	p.unit, p.at = unit.At(s, i)
	return p
}

func checkUnits(t *testing.T, s string) {
	want, boundaries := cut(s)
	if got := unit.Units(s); !slices.Equal(got, want) {
		t.Fatalf("P1.1: Units(%q): %v, want %v", s, got, want)
	}
	if n := unit.Count(s); n != len(want) {
		t.Fatalf("P1.1: Count(%q): %d, want %d", s, n, len(want))
	}
	n := 0
	for at, u := range unit.Walk(s) {
		if n >= len(want) || u != want[n] || at != boundaries[n] {
			t.Fatalf("P1.1: Walk(%q): number %d is %v at %d", s, n, u, at)
		}
		n++
	}
	if n != len(want) {
		t.Fatalf("P1.1: Walk(%q) yields %d, want %d", s, n, len(want))
	}
}

func checkPlaces(t *testing.T, s string, offsets []int) {
	units, boundaries := cut(s)
	for _, i := range offsets {
		if got, want := asked(s, i), placesOf(s, units, boundaries, i); got != want {
			t.Fatalf("P1.2 to P1.4: %q at %d: %+v, want %+v", s, i, got, want)
		}
	}
}

func checkBegun(t *testing.T, s string, begun map[string]int) {
	if got, want := unit.Begun(s), begun[s] > 0; got != want {
		t.Fatalf("P1.6: Begun(%q): %v, want %v", s, got, want)
	}
}

// beginnings counts the characters whose encoding has more bytes behind each beginning.
func beginnings() map[string]int {
	begun := map[string]int{}
	for c := 0x80; c <= 0x10FFFF; c++ {
		if character(c) {
			e := encoding(c)
			for n := 1; n < len(e); n++ {
				begun[e[:n]]++
			}
		}
	}
	return begun
}

func TestUnitsOfSomeTexts(t *testing.T) {
	for _, s := range someTexts() {
		checkUnits(t, s)
	}
}

func TestUnitsOfEachShortText(t *testing.T) {
	eachText(func(s string) { checkUnits(t, s) })
}

func TestUnitsOfEachCharacter(t *testing.T) {
	for c := 0; c <= 0x10FFFF; c++ {
		if !character(c) {
			continue
		}
		e := encoding(c)
		if got := unit.Units(e); len(got) != 1 || got[0] != (api.Unit{Char: rune(c), Size: len(e)}) {
			t.Fatalf("P1.1: Units(%q): %v", e, got)
		}
	}
}

func TestEncodingsOfNoCharacterAreBadBytes(t *testing.T) {
	for c := 0xD800; c <= 0xDFFF; c++ {
		if got := unit.Units(encoding(c)); !slices.Equal(got, []api.Unit{bad, bad, bad}) {
			t.Fatalf("P1.1: %#x: %v", c, got)
		}
	}
	for c := 0x110000; c <= 0x1FFFFF; c += 0x3F {
		if got := unit.Units(encoding(c)); !slices.Equal(got, []api.Unit{bad, bad, bad, bad}) {
			t.Fatalf("P1.1: %#x: %v", c, got)
		}
	}
}

func TestBadBytesAlone(t *testing.T) {
	for b := 0x80; b <= 0xFF; b++ {
		s := string([]byte{byte(b)})
		if got := unit.Units(s); !slices.Equal(got, []api.Unit{bad}) {
			t.Errorf("P1.1: Units(%q): %v", s, got)
		}
	}
}

func TestUnitsAreNewMemory(t *testing.T) {
	s := "a\xc3\xa9\xc3"
	one, two := unit.Units(s), unit.Units(s)
	want := slices.Clone(two)
	one = one[:cap(one)]
	for i := range one {
		one[i] = api.Unit{Char: 'z', Size: 9}
	}
	if !slices.Equal(two, want) || !slices.Equal(unit.Units(s), want) {
		t.Error("P1.1: a change of one answer of Units is seen in another")
	}
}

func TestWalkAgain(t *testing.T) {
	walk := unit.Walk("a\xc3\xa9\xffb")
	want := []int{0, 1, 3, 4}
	for range 3 {
		var got []int
		for at := range walk {
			got = append(got, at)
		}
		if !slices.Equal(got, want) {
			t.Errorf("P1.1: the same walk again: %v, want %v", got, want)
		}
	}
}

func TestWalkBrokenOff(t *testing.T) {
	walk := unit.Walk("a\xc3\xa9\xffb")
	for stop := 1; stop <= 4; stop++ {
		calls := 0
		walk(func(int, api.Unit) bool {
			calls++
			return calls < stop
		})
		if calls != stop {
			t.Errorf("P1.1: broken off behind %d, but called %d times", stop, calls)
		}
		for at, u := range walk {
			if at != 0 || u != (api.Unit{Char: 'a', Size: 1}) {
				t.Errorf("P1.1: behind a break the walk begins with %v at %d", u, at)
			}
			break
		}
	}
}

func TestWalkNested(t *testing.T) {
	walk := unit.Walk("a\xc3\xa9\xff")
	var got [][2]int
	for i := range walk {
		for k := range walk {
			got = append(got, [2]int{i, k})
		}
	}
	want := [][2]int{{0, 0}, {0, 1}, {0, 3}, {1, 0}, {1, 1}, {1, 3}, {3, 0}, {3, 1}, {3, 3}}
	if !slices.Equal(got, want) {
		t.Errorf("P1.1: nested: %v, want %v", got, want)
	}
}

func TestWalkOfNothing(t *testing.T) {
	walk := unit.Walk("")
	if walk == nil {
		t.Fatal("R1: Walk of the empty text is nil")
	}
	for range walk {
		t.Error("P1.1: the empty text has a unit")
	}
}

func TestPlacesOfSomeTexts(t *testing.T) {
	for _, s := range someTexts() {
		checkPlaces(t, s, someOffsets(s))
	}
}

func TestPlacesOfEachShortText(t *testing.T) {
	eachText(func(s string) { checkPlaces(t, s, []int{-1, 0, 1, 2, 3, 4, 5}) })
}

// TestPlacesAmongOtherBytes has offsets far from both ends, where bytes on either side could be taken for a part of the unit.
func TestPlacesAmongOtherBytes(t *testing.T) {
	texts := someTexts()
	for _, left := range texts {
		for _, right := range texts {
			s := left + right
			checkUnits(t, s)
			checkPlaces(t, s, someOffsets(s))
		}
	}
}

func TestEncodeOfEachCharacter(t *testing.T) {
	for c := 0; c <= 0x10FFFF; c++ {
		want := ""
		if character(c) {
			want = encoding(c)
		}
		if got := unit.Encode(rune(c)); got != want {
			t.Fatalf("P1.5: Encode(%#x): %q, want %q", c, got, want)
		}
	}
}

func TestEncodeLeavesOutWhatIsNoCharacter(t *testing.T) {
	for _, c := range []rune{-1, -2, math.MinInt32, 0xD800, 0xDBFF, 0xDC00, 0xDFFF, 0x110000, 0x1FFFFF, math.MaxInt32} {
		if got := unit.Encode(c); got != "" {
			t.Errorf("P1.5: Encode(%#x): %q", c, got)
		}
		if got := unit.Encode('a', c, 0xFFFD, c, c, 'b'); got != "a\xef\xbf\xbdb" {
			t.Errorf("P1.5: Encode with %#x between: %q", c, got)
		}
	}
}

func TestEncodeOfMany(t *testing.T) {
	if got := unit.Encode(); got != "" {
		t.Errorf("P1.5: Encode of nothing: %q", got)
	}
	if got := unit.Encode([]rune(nil)...); got != "" {
		t.Errorf("P1.5: Encode of nil: %q", got)
	}
	var all []rune
	var want strings.Builder
	for _, c := range edgeChars {
		all = append(all, rune(c), rune(c))
		want.WriteString(encoding(c) + encoding(c))
	}
	before := slices.Clone(all)
	if got := unit.Encode(all...); got != want.String() {
		t.Errorf("P1.5: Encode of many: %q, want %q", got, want.String())
	}
	if !slices.Equal(all, before) {
		t.Error("R3: Encode changed its argument")
	}
}

func TestBegun(t *testing.T) {
	begun := beginnings()
	for s := range begun {
		checkBegun(t, s, begun)
	}
	for _, s := range someTexts() {
		checkBegun(t, s, begun)
	}
	eachText(func(s string) { checkBegun(t, s, begun) })
}

func TestBegunOfEachCharacter(t *testing.T) {
	for c := 0; c <= 0x10FFFF; c++ {
		if character(c) && unit.Begun(encoding(c)) {
			t.Fatalf("P1.6: the whole encoding of %#x is called begun", c)
		}
	}
}

// TestTimeOfPlaces would take hours if a call went through the text; the bound is far above what the calls need.
func TestTimeOfPlaces(t *testing.T) {
	const calls, bound = 20000, 20 * time.Second
	start := time.Now()
	for _, piece := range []string{"a", "\x80", "\xf0\x9f\x98\x80", "\xf0"} {
		s := strings.Repeat(piece, (16<<20)/len(piece))
		for n := range calls {
			asked(s, len(s)/2+n)
			asked(s, len(s)-n)
			if n%100 == 0 && time.Since(start) > bound {
				t.Fatalf("P1.7: %d calls within %d bytes of %q took longer than %v", n, len(s), piece, bound)
			}
		}
	}
}
