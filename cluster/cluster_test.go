package cluster_test

import (
	"math"
	"slices"
	"strings"
	"testing"
	"unicode/utf8"

	"bodkin/api"
	"bodkin/cluster"
	"bodkin/unit"
	"bodkin/width"
)

// pieces are units of each class and length, the controls that the chapter tells apart, and bytes that are no character or a part of one.
var pieces = []string{
	"a", " ", "\u00a0", "\u00e9", "\u20ac", "\U00010000", "\ufffd",
	"\u0301", "\u200d", "\U0001f3fb", "\U000e0100",
	"\u4e00", "\U0001f600",
	"\r", "\n", "\x00", "\t", "\x1f", "\x7f", "\u0080", "\u0085", "\u009f",
	"\xff", "\x81", "\xcc", "\xe4\xb8", "\xf3\xa0\x84",
}

// someBytes make encodings of all lengths and classes, whole, cut off and joined wrongly.
var someBytes = []byte{'a', '\r', '\n', 0x7F, 0x80, 0x81, 0x84, 0x85, 0xA0, 0xB8, 0xC2, 0xCC, 0xE4, 0xF3, 0xFF}

// ordinaryTexts are texts of several lines, and long ones.
func ordinaryTexts() []string {
	return []string{
		"plain words, nothing else", "one\ntwo\r\nthree\rfour\n\r\n",
		"caf\u00e9 cafe\u0301 \u20ac5 \U0001f600!", "\u4e00\u4e8c\u4e09 \u304b\u3099 \uac00",
		"\U0001f44d\U0001f3fd \U0001f469\u200d\U0001f4bb", "a\tb\x1b[0m\u0085c\u009bd",
		"half \xe4\xb8 and \xc3\xc3\xa9 and \xff\u0301 and \xed\xa0\x80",
		"a" + strings.Repeat("\u0301", 300) + "b", strings.Repeat("\u0301", 300),
		strings.Repeat("\r", 50) + strings.Repeat("\n", 50), strings.Repeat("\r\n", 50),
		strings.Repeat("e\u0301\u4e00\xff\t\r\n\u0301", 40),
	}
}

// eachText hands over every text of at most most parts.
func eachText(parts []string, most int, do func(string)) {
	var grow func(s string, n int)
	grow = func(s string, n int) {
		do(s)
		if n < most {
			for _, p := range parts {
				grow(s+p, n+1)
			}
		}
	}
	grow("", 0)
}

// eachSmallText hands over the ordinary texts, every text of at most three pieces and every text of at most four of some bytes.
func eachSmallText(do func(string)) {
	for _, s := range ordinaryTexts() {
		do(s)
	}
	eachText(pieces, 3, do)
	var parts []string
	for _, b := range someBytes {
		parts = append(parts, string([]byte{b}))
	}
	eachText(parts, 4, do)
}

// someOffsets are all within and around s, and the least and the greatest int.
func someOffsets(s string) []int {
	list := []int{math.MinInt, math.MinInt + 1, math.MinInt32, math.MaxInt32, math.MaxInt - 1, math.MaxInt}
	for at := -9; at <= len(s)+9; at++ {
		list = append(list, at)
	}
	return list
}

func asked(s string, at int) places {
	return places{boundary: cluster.Boundary(s, at), next: cluster.Next(s, at), prev: cluster.Prev(s, at), snap: cluster.Snap(s, at)}
}

func checkPlaces(t *testing.T, s string, r reference) {
	for _, at := range someOffsets(s) {
		got, want := asked(s, at), r.placesOf(s, at)
		if got.boundary != want.boundary {
			t.Fatalf("P3.1: Boundary(%q, %d): %v", s, at, got.boundary)
		}
		if got != want {
			t.Fatalf("P3.2: %q at %d: %+v, want %+v", s, at, got, want)
		}
	}
}

func checkClusters(t *testing.T, s string, r reference) {
	if got := cluster.List(s); !slices.Equal(got, r.clusters) {
		t.Fatalf("P3.3: List(%q): %v, want %v", s, got, r.clusters)
	}
	if got := slices.Collect(cluster.Walk(s)); !slices.Equal(got, r.clusters) {
		t.Fatalf("P3.3: Walk(%q): %v, want %v", s, got, r.clusters)
	}
	if got := cluster.Count(s); got != len(r.clusters) {
		t.Fatalf("P3.3: Count(%q): %d, want %d", s, got, len(r.clusters))
	}
	if got := cluster.Cells(s); got != r.cells {
		t.Fatalf("P3.3: Cells(%q): %d, want %d", s, got, r.cells)
	}
}

// checkDrawn asks the library for valid UTF-8 too, which shares nothing with the reference.
func checkDrawn(t *testing.T, s string, r reference) {
	got := cluster.Drawn(s)
	if got != r.drawn {
		t.Fatalf("P3.4: Drawn(%q): %q, want %q", s, got, r.drawn)
	}
	if !utf8.ValidString(got) {
		t.Fatalf("P3.4: Drawn(%q): %q is no valid UTF-8", s, got)
	}
	for _, c := range got {
		if c < 0x20 || 0x7F <= c && c <= 0x9F {
			t.Fatalf("P3.4: Drawn(%q): %q has a control", s, got)
		}
	}
}

func TestPlaces(t *testing.T) {
	eachSmallText(func(s string) { checkPlaces(t, s, referenceOf(s)) })
}

func TestClusters(t *testing.T) {
	eachSmallText(func(s string) { checkClusters(t, s, referenceOf(s)) })
}

func TestDrawn(t *testing.T) {
	eachSmallText(func(s string) { checkDrawn(t, s, referenceOf(s)) })
}

// TestFourUnits has a unit's neighbours on both sides with neighbours of their own.
func TestFourUnits(t *testing.T) {
	parts := []string{"a", "\u0301", "\u4e00", "\r", "\n", "\t", "\u0085", "\xff", "\xcc", "\U000e0100"}
	eachText(parts, 4, func(s string) {
		r := referenceOf(s)
		checkPlaces(t, s, r)
		checkClusters(t, s, r)
		checkDrawn(t, s, r)
	})
}

func TestEachCharacter(t *testing.T) {
	for c := rune(0); c <= 0x10FFFF && !t.Failed(); c++ {
		s := unit.Encode(c)
		if s == "" {
			continue
		}
		k := width.Class(c)
		want := api.Cluster{To: len(s), Class: k, Cells: width.Cells(c)}
		if got := cluster.List(s); len(got) != 1 || got[0] != want {
			t.Errorf("P3.3: List of %#x: %v, want %v", c, got, want)
		}
		if got, want := cluster.Drawn(s), drawnFor(k, s); got != want {
			t.Errorf("P3.4: Drawn of %#x: %q, want %q", c, got, want)
		}
		if got := cluster.Boundary("a"+s, 1); got != (k != api.ClassMark) {
			t.Errorf("P3.1: Boundary between a and %#x: %v", c, got)
		}
		if got := cluster.Boundary(s+"\u0301", len(s)); got != (k == api.ClassNewline || k == api.ClassControl) {
			t.Errorf("P3.1: Boundary between %#x and a mark: %v", c, got)
		}
		if got := cluster.Boundary(s+"\n", len(s)); got != (c != '\r') {
			t.Errorf("P3.1: Boundary between %#x and a newline: %v", c, got)
		}
		if got := cluster.Boundary("\r"+s, 1); got != (c != '\n') {
			t.Errorf("P3.1: Boundary between CR and %#x: %v", c, got)
		}
	}
}

func TestBadBytesAlone(t *testing.T) {
	for b := 0x80; b <= 0xFF; b++ {
		s := string([]byte{byte(b)})
		if got := cluster.List(s); !slices.Equal(got, []api.Cluster{{To: 1, Class: api.ClassBad, Cells: 1}}) {
			t.Errorf("P3.3: List(%q): %v", s, got)
		}
		if got := cluster.Drawn(s); got != "\ufffd" {
			t.Errorf("P3.4: Drawn(%q): %q", s, got)
		}
	}
}

// TestEdgesOfTheChapter writes down what the reference reckons elsewhere.
func TestEdgesOfTheChapter(t *testing.T) {
	for _, x := range []struct {
		s          string
		boundaries []int
		classes    []api.Class
		drawn      string
	}{
		{"", []int{0}, nil, ""},
		{"\r\n", []int{0, 2}, []api.Class{api.ClassNewline}, ""},
		{"\r", []int{0, 1}, []api.Class{api.ClassControl}, "^M"},
		{"\n\r", []int{0, 1, 2}, []api.Class{api.ClassNewline, api.ClassControl}, "^M"},
		{"\r\r\n", []int{0, 1, 3}, []api.Class{api.ClassControl, api.ClassNewline}, "^M"},
		{"\u0301a", []int{0, 2, 3}, []api.Class{api.ClassMark, api.ClassPlain}, " \u0301a"},
		{"\n\u0301", []int{0, 1, 3}, []api.Class{api.ClassNewline, api.ClassMark}, " \u0301"},
		{"\r\u0301\n", []int{0, 1, 3, 4}, []api.Class{api.ClassControl, api.ClassMark, api.ClassNewline}, "^M \u0301"},
		{"\t\u0301", []int{0, 1, 3}, []api.Class{api.ClassControl, api.ClassMark}, "^I \u0301"},
		{"\u009f\u0301", []int{0, 2, 4}, []api.Class{api.ClassControl, api.ClassMark}, "\ufffd \u0301"},
		{"\x80\u0301", []int{0, 3}, []api.Class{api.ClassBad}, "\ufffd\u0301"},
		{"\u4e00\u0301\u200d", []int{0, 8}, []api.Class{api.ClassWide}, "\u4e00\u0301\u200d"},
		{"a\u0301\u0301", []int{0, 5}, []api.Class{api.ClassPlain}, "a\u0301\u0301"},
		{"a\xcc", []int{0, 1, 2}, []api.Class{api.ClassPlain, api.ClassBad}, "a\ufffd"},
		{"\x00\t\x1f\x7f", []int{0, 1, 2, 3, 4}, []api.Class{api.ClassControl, api.ClassControl, api.ClassControl, api.ClassControl}, "^@^I^_^?"},
		{"\u0080\u0085\u00a0", []int{0, 2, 4, 6}, []api.Class{api.ClassControl, api.ClassControl, api.ClassPlain}, "\ufffd\ufffd\u00a0"},
	} {
		var classes []api.Class
		for _, c := range cluster.List(x.s) {
			classes = append(classes, c.Class)
		}
		if !slices.Equal(classes, x.classes) {
			t.Errorf("P3.3: classes of %q: %v, want %v", x.s, classes, x.classes)
		}
		for at := -1; at <= len(x.s)+1; at++ {
			if got := cluster.Boundary(x.s, at); got != slices.Contains(x.boundaries, at) {
				t.Errorf("P3.1: Boundary(%q, %d): %v", x.s, at, got)
			}
		}
		if got := cluster.Drawn(x.s); got != x.drawn {
			t.Errorf("P3.4: Drawn(%q): %q, want %q", x.s, got, x.drawn)
		}
	}
}

func TestEndsOfInt(t *testing.T) {
	for _, s := range []string{"", "a", "\u0301", "\r\n", "\xff"} {
		if got, want := asked(s, math.MinInt), (places{}); got != want {
			t.Errorf("P3.2: %q at the least int: %+v", s, got)
		}
		if got, want := asked(s, math.MaxInt), (places{next: len(s), prev: len(s), snap: len(s)}); got != want {
			t.Errorf("P3.2: %q at the greatest int: %+v", s, got)
		}
	}
}

func TestListIsNewMemory(t *testing.T) {
	s := "a\u0301\r\n\xff"
	one, two := cluster.List(s), cluster.List(s)
	want := slices.Clone(two)
	one = one[:cap(one)]
	for n := range one {
		one[n] = api.Cluster{At: 9, To: 9, Class: 9, Cells: 9}
	}
	if !slices.Equal(two, want) || !slices.Equal(cluster.List(s), want) {
		t.Error("R3: a change of one answer of List is seen in another")
	}
}

func TestWalkAgain(t *testing.T) {
	s := "a\u0301\r\n\xff\u4e00"
	walk, want := cluster.Walk(s), referenceOf(s).clusters
	for range 3 {
		if got := slices.Collect(walk); !slices.Equal(got, want) {
			t.Errorf("P3.3: the same walk again: %v, want %v", got, want)
		}
	}
}

func TestWalkBrokenOff(t *testing.T) {
	s := "a\u0301\r\n\xff\u4e00"
	walk, all := cluster.Walk(s), referenceOf(s).clusters
	for stop := 1; stop <= len(all); stop++ {
		var got []api.Cluster
		walk(func(c api.Cluster) bool {
			got = append(got, c)
			return len(got) < stop
		})
		if !slices.Equal(got, all[:stop]) {
			t.Errorf("P3.3: broken off behind %d: %v, want %v", stop, got, all[:stop])
		}
		for c := range walk {
			if c != all[0] {
				t.Errorf("P3.3: behind a break the walk begins with %v", c)
			}
			break
		}
	}
}

func TestWalkNested(t *testing.T) {
	s := "a\u0301\r\n\xff"
	walk, all := cluster.Walk(s), referenceOf(s).clusters
	var got, want [][2]api.Cluster
	for one := range walk {
		for two := range walk {
			got = append(got, [2]api.Cluster{one, two})
		}
	}
	for _, one := range all {
		for _, two := range all {
			want = append(want, [2]api.Cluster{one, two})
		}
	}
	if !slices.Equal(got, want) {
		t.Errorf("P3.3: nested: %v, want %v", got, want)
	}
}

func TestWalkOfNothing(t *testing.T) {
	walk := cluster.Walk("")
	if walk == nil {
		t.Fatal("R1: Walk of the empty text is nil")
	}
	for range walk {
		t.Error("P3.3: the empty text has a cluster")
	}
}

// checkPieces cuts s at every place that is far enough from each offset.
func checkPieces(t *testing.T, s string) {
	for at := 1; at < len(s); at++ {
		whole := cluster.Boundary(s, at)
		for lo := 0; lo <= max(0, at-4); lo++ {
			for hi := min(len(s), at+4); hi <= len(s); hi++ {
				if got := cluster.Boundary(s[lo:hi], at-lo); got != whole {
					t.Fatalf("P3.5: Boundary(%q, %d): %v, but of the piece from %d to %d %v", s, at, whole, lo, hi, got)
				}
			}
		}
	}
}

func TestPieces(t *testing.T) {
	for _, s := range ordinaryTexts() {
		checkPieces(t, s[:min(len(s), 60)])
	}
	parts := []string{"a", "\u0301", "\u20ac", "\U0001f600", "\U000e0100", "\r", "\n", "\u0085", "\xff", "\xf3\xa0\x84"}
	eachText(parts, 4, func(s string) { checkPieces(t, s) })
}
