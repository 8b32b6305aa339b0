package keys_test

import (
	"slices"
	"strings"
	"testing"
	"time"

	"bodkin/api"
	"bodkin/keys"
)

// behind is what a decoder has told and holds back behind so many bytes of a text.
type behind struct {
	told int
	held string
}

// prefixes answers what is told and held back behind each number of bytes of s.
func prefixes(s string) []behind {
	var list []behind
	for n := range len(s) + 1 {
		keys, held := plainly(s[:n])
		list = append(list, behind{len(keys), held})
	}
	return list
}

// lookAtPieces feeds a new decoder with the pieces of s that end at the offsets, and holds what it tells behind each, and at last, against the plain answer.
func lookAtPieces(t *testing.T, s string, all []api.Key, wants []behind, ends ...int) {
	t.Helper()
	d := keys.New()
	var got []api.Key
	from := 0
	for _, to := range append(ends, len(s)) {
		got = append(got, d.Feed(s[from:to])...)
		from = to
		if !slices.Equal(got, all[:wants[to].told]) {
			t.Fatalf("P18.3: %q cut at %v: behind %d bytes %v, want %v", s, ends, to, got, all[:wants[to].told])
		}
		if held := d.Held(); held != wants[to].held {
			t.Fatalf("P18.3: %q cut at %v: behind %d bytes %q is held back, want %q", s, ends, to, held, wants[to].held)
		}
	}
	got = append(got, d.Flush()...)
	if !slices.Equal(got, all) {
		t.Fatalf("P18.2: %q cut at %v: with Flush %v, want %v", s, ends, got, all)
	}
	if again := d.Flush(); d.Held() != "" || len(again) != 0 {
		t.Fatalf("P18.2: %q: behind Flush %q is held back, and Flush answers %v", s, d.Held(), again)
	}
	// What was flushed leaves nothing behind.
	if next := d.Feed("[A\x1bO"); !slices.Equal(next, []api.Key{char('['), char('A')}) || d.Held() != "\x1bO" {
		t.Fatalf("P18.2: %q: behind Flush [A is read as %v, %q is held back", s, next, d.Held())
	}
}

// lookAtSplit holds Decode and Split of s against the plain answer.
func lookAtSplit(t *testing.T, s string, list []told) {
	t.Helper()
	if got := keys.Decode(s); !slices.Equal(got, keysOf(list)) {
		t.Fatalf("P18.4: Decode(%q): %v, want %v", s, got, keysOf(list))
	}
	pieces := keys.Split(s)
	if !slices.Equal(pieces, bytesOf(list)) {
		t.Fatalf("P18.4: Split(%q): %q, want %q", s, pieces, bytesOf(list))
	}
	if strings.Join(pieces, "") != s {
		t.Fatalf("P18.4: Split(%q): %q is not all of it", s, pieces)
	}
	for i, piece := range pieces {
		if got := keys.Decode(piece); len(got) != 1 || got[0] != list[i].key {
			t.Fatalf("P18.4: Decode of the piece %q of %q: %v, want %v", piece, s, got, list[i].key)
		}
		written, ok := keys.Bytes(list[i].key)
		if got := keys.Decode(written); !ok || len(got) != 1 || got[0] != list[i].key {
			t.Fatalf("P18.5: Bytes of %v, which %q made: %q, %v", list[i].key, piece, written, ok)
		}
	}
}

// lookAt has s whole, byte by byte and cut into two pieces everywhere.
func lookAt(t *testing.T, s string) {
	t.Helper()
	list := plainAll(s)
	all, wants := keysOf(list), prefixes(s)
	lookAtSplit(t, s, list)
	var each []int
	for n := range len(s) + 1 {
		lookAtPieces(t, s, all, wants, n)
		each = append(each, n)
	}
	lookAtPieces(t, s, all, wants)
	lookAtPieces(t, s, all, wants, each...)
}

// lookAtThree has s cut into three pieces everywhere, empty ones too.
func lookAtThree(t *testing.T, s string) {
	t.Helper()
	all, wants := keysOf(plainAll(s)), prefixes(s)
	for one := range len(s) + 1 {
		for two := one; two <= len(s); two++ {
			lookAtPieces(t, s, all, wants, one, two)
		}
	}
}

// every calls look with each text of at most most of the pieces.
func every(pieces []string, most int, look func(string)) {
	var grow func(text string, most int)
	grow = func(text string, most int) {
		look(text)
		for _, piece := range pieces {
			if most > 0 {
				grow(text+piece, most-1)
			}
		}
	}
	grow("", most)
}

// TestShortTexts has all texts of few pieces: characters, controls, sequences, pastes, bad bytes, and parts of all these.
func TestShortTexts(t *testing.T) {
	look := func(s string) {
		lookAt(t, s)
		lookAtThree(t, s)
	}
	every([]string{
		"a", "\x01", "\x7f", "\x1b", "[", "O", "A", "Z", "~", "1", ";", "200~", "201~", "\x1b[", "\x1b[200~", "\x1b[201~",
		"\xe2", "\x82", "\xac", "\u20ac", "\xff", "\xf0\x9f", "\u0085",
	}, 3, look)
	every([]string{"\x1b", "[", "O", "1", ";", "A"}, 5, look)
	every([]string{"\x1b", "\xe2", "\x82", "\xac", "\xc3"}, 5, look)
	every([]string{"\x1b[200~", "\x1b[201~", "\x1b[20", "1~", "\x1b", "x"}, 4, look)
	every([]string{"\x1b[", "0", "1", "2", "3", ";", "~"}, 5, look)
}

// TestBytesOfAllKinds has all short texts of bytes at which the ways of reading part.
func TestBytesOfAllKinds(t *testing.T) {
	var ones []string
	for b := range 256 {
		ones = append(ones, string([]byte{byte(b)}))
	}
	every(ones, 2, func(s string) { lookAt(t, s) })
	edges := []string{
		"\x00", "\x1a", "\x1b", "\x1c", "\x1f", "\x20", "0", "9", "?", "@", "A", "O", "[", "~", "\x7f", "\x80", "\x9f", "\xa0", "\xbf",
		"\xc1", "\xc2", "\xdf", "\xe0", "\xed", "\xef", "\xf0", "\xf4", "\xf5", "\xff",
	}
	every(edges, 3, func(s string) { lookAt(t, s) })
}

// numbers answers numbers that look mixed, the same ones at each run.
func numbers(seed uint64) func(below int) int {
	return func(below int) int {
		seed = seed*6364136223846793005 + 1442695040888963407
		return int(seed>>33) % below
	}
}

// mixed answers a text of n pieces of all kinds, some of which break off.
func mixed(seed uint64, n int) string {
	next := numbers(seed)
	pieces := []string{
		"a", "hello", " ", "\u00e9", "\u20ac", "\U0001F600", "\u0301", "\u0085", "\r", "\t", "\x00", "\x7f", "\xff", "\xc0\x80", "\xe2\x82", "\xf0\x9f\x98", "\xed\xa0\x80", "\xf4\x90",
		"\x1b", "\x1ba", "\x1b\x1b", "\x1b\x01", "\x1b\u20ac", "\x1b\xe2", "\x1b[", "\x1bO", "\x1bOA", "\x1bOx", "\x1bOS", "\x1b[A", "\x1b[1;5C", "\x1b[3~", "\x1b[3;2~", "\x1b[Z", "\x1b[1;8Z",
		"\x1b[15~", "\x1b[16~", "\x1b[24;7~", "\x1b[1;9A", "\x1b[?25h", "\x1b[1;2;3A", "\x1b[0001A", "\x1b[ ", "\x1b[" + strings.Repeat("1", 27), "\x1b[" + strings.Repeat(";", 29), "\x1b[" + strings.Repeat("?", 30) + "A",
		"\x1b[200~", "\x1b[200~pasted\x1b[201~", "\x1b[200~\x1b[201~", "\x1b[201~", "\x1b[201~", "\x1b[201~", "\x1b[201", "\x1b[200;1~", "~", "1", "A",
	}
	var out strings.Builder
	for range n {
		out.WriteString(pieces[next(len(pieces))])
	}
	return out.String()
}

// TestLongTexts has mixed texts, cut into two pieces everywhere and into many at mixed places; and shorter ones cut into three everywhere.
func TestLongTexts(t *testing.T) {
	for seed := range 300 {
		s := mixed(uint64(seed), 5+seed%40)
		lookAt(t, s)
		all, wants := keysOf(plainAll(s)), prefixes(s)
		next := numbers(uint64(seed))
		for range 40 {
			var ends []int
			for to := next(9); to <= len(s); to += next(9) {
				ends = append(ends, to)
			}
			lookAtPieces(t, s, all, wants, ends...)
		}
	}
	for seed := range 300 {
		lookAtThree(t, mixed(uint64(1000+seed), 6))
	}
}

// TestGoingOn feeds one decoder with many texts, flushed now and then.
func TestGoingOn(t *testing.T) {
	d, next, held := keys.New(), numbers(7), ""
	for i := range 20000 {
		s := mixed(uint64(i), 1+next(4))
		if next(3) == 0 {
			s = s[:next(len(s))]
		}
		list, rest := plainly(held + s)
		if got := d.Feed(s); !slices.Equal(got, keysOf(list)) {
			t.Fatalf("P18.1: %q behind %q: %v, want %v", s, held, got, keysOf(list))
		}
		held = rest
		if next(5) == 0 {
			if got, want := d.Flush(), keysOf(plainRest(held)); !slices.Equal(got, want) {
				t.Fatalf("P18.2: Flush of %q: %v, want %v", held, got, want)
			}
			held = ""
		}
		if d.Held() != held {
			t.Fatalf("P18.1: behind %q: %q is held back, want %q", s, d.Held(), held)
		}
	}
}

// TestTime has a long paste that comes byte by byte: if all that is held back were gone through at each byte, it would take many hours.
func TestTime(t *testing.T) {
	text := strings.Repeat("pasted \u4e00 ~ \x1b[201 \x1b[200~\r\n", 1<<18)
	begun := time.Now()
	d := keys.New()
	all := "\x1b[200~" + text + "\x1b[201~"
	var got []api.Key
	for i := range len(all) {
		got = append(got, d.Feed(all[i:i+1])...)
	}
	if len(got) != 1 || got[0] != paste(text) || d.Held() != "" {
		t.Errorf("P18.1: a long paste byte by byte: %d keys", len(got))
	}
	if took := time.Since(begun); took > 20*time.Second {
		t.Errorf("P18.1: a paste of %d bytes took %v", len(all), took)
	}
}
