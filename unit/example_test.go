package unit_test

import (
	"slices"
	"testing"

	"bodkin/api"
	"bodkin/unit"
)

// The chapter's examples, as they stand there.

func TestExample1(t *testing.T) {
	for _, c := range []struct {
		s    string
		want []api.Unit
	}{
		{"a\xc3\xa9\xc3", []api.Unit{{Char: 'a', Size: 1}, {Char: 0xE9, Size: 2}, bad}},
		{"\xe2\x82", []api.Unit{bad, bad}},
		{"\xc0\x80", []api.Unit{bad, bad}},
		{"\xed\xa0\x80", []api.Unit{bad, bad, bad}},
		{"\xf0\x9f\x98\x80", []api.Unit{{Char: 0x1F600, Size: 4}}},
		{"\xe2\xe2\x82\xac", []api.Unit{bad, {Char: 0x20AC, Size: 3}}},
		{"\xf0\x9f\xc3\xa9", []api.Unit{bad, bad, {Char: 0xE9, Size: 2}}},
	} {
		if got := unit.Units(c.s); !slices.Equal(got, c.want) {
			t.Errorf("example 1: Units(%q): %v, want %v", c.s, got, c.want)
		}
	}
}

func TestExample2(t *testing.T) {
	const s = "a\xc3\xa9"
	for i, want := range map[int]bool{0: true, 1: true, 3: true, 2: false, -1: false, 4: false} {
		if unit.Boundary(s, i) != want {
			t.Errorf("example 2: Boundary(%d): %v", i, !want)
		}
	}
	for _, c := range []struct {
		name      string
		got, want int
	}{
		{"Down(2)", unit.Down(s, 2), 1},
		{"Up(2)", unit.Up(s, 2), 3},
		{"Next(1)", unit.Next(s, 1), 3},
		{"Next(3)", unit.Next(s, 3), 3},
		{"Prev(3)", unit.Prev(s, 3), 1},
		{"Prev(2)", unit.Prev(s, 2), 1},
		{"Prev(0)", unit.Prev(s, 0), 0},
		{"Down(9)", unit.Down(s, 9), 3},
		{"Up(-9)", unit.Up(s, -9), 0},
		{"Next(-9)", unit.Next(s, -9), 0},
		{"Prev(9)", unit.Prev(s, 9), 3},
		{"Next of nothing", unit.Next("", 0), 0},
	} {
		if c.got != c.want {
			t.Errorf("example 2: %s: %d, want %d", c.name, c.got, c.want)
		}
	}
}

func TestExample3(t *testing.T) {
	if got := unit.Encode('a', 0xD800, 0x1F600, -1); got != "a\xf0\x9f\x98\x80" {
		t.Errorf("example 3: %q", got)
	}
}

func TestExamplesOfBegun(t *testing.T) {
	if !unit.Begun("\xe2\x82") {
		t.Error("P1.6: two bytes of three are not called begun")
	}
	for _, s := range []string{"\xe2\x82\xac", "", "a", "\xe0\x80", "\xed\xa0", "\xc0", "\xf4\x90"} {
		if unit.Begun(s) {
			t.Errorf("P1.6: %q is called begun", s)
		}
	}
}
