package cluster_test

import (
	"slices"
	"testing"

	"bodkin/cluster"
)

// The chapter's examples, as they stand there.

func TestExamples(t *testing.T) {
	const mark, wide = "\xcc\x81", "\xe4\xb8\x80"
	for _, x := range []struct {
		s          string
		boundaries []int
		cells      []int
		drawn      string
	}{
		{"", []int{0}, nil, ""},
		{"a" + mark + "b", []int{0, 3, 4}, []int{1, 1}, "a\u0301b"},
		{mark + mark, []int{0, 4}, []int{1}, " \u0301\u0301"},
		{"\x0d\x0a" + mark, []int{0, 2, 4}, []int{0, 1}, " \u0301"},
		{"\x0da", []int{0, 1, 2}, []int{2, 1}, "^Ma"},
		{"\x0a\x0d", []int{0, 1, 2}, []int{0, 2}, "^M"},
		{"\xff" + mark + wide, []int{0, 3, 6}, []int{1, 2}, "\ufffd\u0301\u4e00"},
		{"\xe4\xb8" + mark, []int{0, 1, 4}, []int{1, 1}, "\ufffd\ufffd\u0301"},
		{"\xc2\x85" + mark, []int{0, 2, 4}, []int{1, 1}, "\ufffd \u0301"},
		{"\x7f\x00", []int{0, 1, 2}, []int{2, 2}, "^?^@"},
	} {
		boundaries, sum := []int{0}, 0
		var cells []int
		for c := range cluster.Walk(x.s) {
			boundaries, cells = append(boundaries, c.To), append(cells, c.Cells)
			sum += c.Cells
		}
		if !slices.Equal(boundaries, x.boundaries) || !slices.Equal(cells, x.cells) {
			t.Errorf("examples: %q: boundaries %v, cells %v", x.s, boundaries, cells)
		}
		if n := cluster.Count(x.s); n != len(x.cells) {
			t.Errorf("examples: Count(%q): %d", x.s, n)
		}
		if n := cluster.Cells(x.s); n != sum {
			t.Errorf("examples: Cells(%q): %d", x.s, n)
		}
		if got := cluster.Drawn(x.s); got != x.drawn {
			t.Errorf("examples: Drawn(%q): %q, want %q", x.s, got, x.drawn)
		}
	}
}

func TestExamplesOfPlaces(t *testing.T) {
	const s = "a\xcc\x81b"
	for _, x := range []struct {
		name      string
		got, want int
	}{
		{"Next of 0", cluster.Next(s, 0), 3},
		{"Next of 1", cluster.Next(s, 1), 3},
		{"Next of 3", cluster.Next(s, 3), 4},
		{"Next of 4", cluster.Next(s, 4), 4},
		{"Prev of 3", cluster.Prev(s, 3), 0},
		{"Prev of 4", cluster.Prev(s, 4), 3},
		{"Prev of 2", cluster.Prev(s, 2), 0},
		{"Snap of 1", cluster.Snap(s, 1), 3},
		{"Snap of 3", cluster.Snap(s, 3), 3},
		{"Snap of 9", cluster.Snap(s, 9), 4},
		{"Snap of -1", cluster.Snap(s, -1), 0},
		{"Next of -9", cluster.Next(s, -9), 0},
		{"Prev of 13", cluster.Prev(s, 13), 4},
	} {
		if x.got != x.want {
			t.Errorf("examples: %s: %d, want %d", x.name, x.got, x.want)
		}
	}
}
