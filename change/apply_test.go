package change_test

import (
	"math"
	"strings"
	"testing"
	"unsafe"

	"bodkin/api"
	"bodkin/change"
)

// This file has Apply, and the memory that texts are answered in.

// applied does an edit byte by byte.
func applied(text string, e api.Edit) string {
	var out []byte
	for at := 0; at <= len(text); at++ {
		if at == e.At {
			out = append(out, e.Put...)
		}
		if at < len(text) && (at < e.At || at-e.At >= e.Cut) {
			out = append(out, text[at])
		}
	}
	return string(out)
}

// TestApply has every edit of short texts, those that can't be done too.
func TestApply(t *testing.T) {
	for _, text := range []string{"", "a", "abc", "\u4e00\r\n", "\xff\u0301\xe4", "abcdefgh\n"} {
		for at := -2; at <= len(text)+2; at++ {
			for cut := -2; cut <= len(text)+2; cut++ {
				for _, put := range []string{"", "x", "\n", "\u0301\xff", text, "longer than all of these\r\n"} {
					e := api.Edit{At: at, Cut: cut, Put: put}
					want, wantE := "", api.ErrRange
					if at >= 0 && cut >= 0 && at+cut <= len(text) {
						want, wantE = applied(text, e), api.OK
					}
					if got, gotE := change.Apply(text, e); got != want || gotE != wantE {
						t.Fatalf("P17.2: Apply(%q, %v): %q, %v, want %q, %v", text, e, got, gotE, want, wantE)
					}
				}
			}
		}
	}
}

// TestApplyWrittenDown has edits at both ends, through characters, and with numbers that would wrap round.
func TestApplyWrittenDown(t *testing.T) {
	for _, x := range []struct {
		text string
		edit api.Edit
		want string
	}{
		{"", api.Edit{}, ""}, {"", api.Edit{Put: "ab"}, "ab"}, {"abc", api.Edit{}, "abc"}, {"abc", api.Edit{Cut: 3}, ""}, {"abc", api.Edit{At: 3}, "abc"},
		{"abc", api.Edit{At: 3, Put: "d"}, "abcd"}, {"abc", api.Edit{Put: "-"}, "-abc"}, {"abc", api.Edit{At: 1, Cut: 1, Put: "XY"}, "aXYc"}, {"abc", api.Edit{At: 1, Cut: 2}, "a"}, {"abc", api.Edit{Cut: 3, Put: "abc"}, "abc"},
		{"\u4e00", api.Edit{At: 1, Cut: 1, Put: "a"}, "\xe4a\x80"}, {"\r\n", api.Edit{At: 1, Put: "\u0301"}, "\r\u0301\n"}, {"\xff\xfe", api.Edit{At: 1, Cut: 1, Put: "\xfd"}, "\xff\xfd"},
	} {
		if got, e := change.Apply(x.text, x.edit); got != x.want || e != api.OK {
			t.Errorf("P17.2: Apply(%q, %v): %q, %v, want %q", x.text, x.edit, got, e, x.want)
		}
	}
	wrong := []api.Edit{
		{At: -1}, {At: -1, Cut: 1}, {At: math.MinInt}, {At: math.MinInt, Cut: math.MinInt}, {At: math.MinInt, Cut: math.MaxInt}, {At: 4}, {At: math.MaxInt}, {At: math.MaxInt, Cut: 1}, {At: math.MaxInt, Cut: math.MaxInt}, {At: math.MaxInt, Cut: math.MinInt},
		{Cut: -1}, {At: 3, Cut: -1}, {At: 3, Cut: -3}, {At: 4, Cut: -1}, {Cut: math.MinInt}, {At: 1, Cut: math.MinInt}, {Cut: 4}, {At: 1, Cut: 3}, {At: 2, Cut: 2}, {At: 3, Cut: 1}, {Cut: math.MaxInt}, {At: 1, Cut: math.MaxInt}, {At: 3, Cut: math.MaxInt - 1}, {At: 1, Cut: 1 << 32}, {At: 1 << 32, Cut: 1},
	}
	for _, e := range wrong {
		for _, put := range []string{"", "x", "a longer text"} {
			e.Put = put
			if got, err := change.Apply("abc", e); got != "" || err != api.ErrRange {
				t.Errorf("P17.2: Apply(\"abc\", %v): %q, %v", e, got, err)
			}
		}
	}
}

// within tells whether a text lies in the memory of another.
func within(part, whole string) bool {
	from, at := uintptr(unsafe.Pointer(unsafe.StringData(whole))), uintptr(unsafe.Pointer(unsafe.StringData(part)))
	return part != "" && from <= at && at < from+uintptr(len(whole))
}

// TestNewMemory asks that no text that is answered shares memory with one that was handed in.
func TestNewMemory(t *testing.T) {
	text := strings.Repeat("ab c-d\nEF\r\n", 9)
	for _, kind := range theKinds {
		for at := range len(text) + 1 {
			c, _ := change.Of(api.Command{Kind: kind, Count: 2}, text, at, 20)
			if within(c.Kill, text) || within(c.Edit.Put, text) {
				t.Errorf("R3: Of(%d) at %d shares the text's memory", kind, at)
			}
		}
	}
	put := strings.Repeat("x", 20)
	for _, e := range []api.Edit{{}, {Put: put}, {Cut: len(text), Put: put}, {Cut: 9}, {At: 9, Cut: len(text) - 9}, {At: 5, Cut: 5, Put: put}} {
		if got, _ := change.Apply(text, e); within(got, text) || within(got, put) {
			t.Errorf("R3: Apply of %v shares memory", e)
		}
	}
}
