package lines_test

import (
	"slices"
	"testing"

	"bodkin/api"
	"bodkin/lines"
)

// The chapter's examples, as they stand there.

const exampleText = "\x61\x62\x0d\x0a\xe4\xb8\x80\x63\x0a\x0a\x0d"

// number is a number that a call is asked of, and what it answers.
type number struct {
	of, want int
	e        api.Errno
}

func TestExamplesOfLines(t *testing.T) {
	for _, k := range keepers(t, exampleText) {
		want := []api.Span{{From: 0, To: 2}, {From: 4, To: 8}, {From: 9, To: 9}, {From: 10, To: 11}}
		if got := collect(t, k.text); !slices.Equal(got, want) || lines.Count(k.text) != 4 {
			t.Errorf("examples: the lines of %s: %v, %d", k.name, got, lines.Count(k.text))
		}
		for line, w := range want {
			if got, e := lines.Span(k.text, line); got != w || e != api.OK {
				t.Errorf("examples: Span(%d) of %s: %v, %v", line, k.name, got, e)
			}
		}
		for _, x := range []number{{0, 0, 0}, {2, 0, 0}, {3, 0, 0}, {4, 1, 0}, {8, 1, 0}, {9, 2, 0}, {10, 3, 0}, {11, 3, 0}, {12, 0, api.ErrRange}, {-1, 0, api.ErrRange}} {
			if got, e := lines.Of(k.text, x.of); got != x.want || e != x.e {
				t.Errorf("examples: Of(%d) of %s: %d, %v", x.of, k.name, got, e)
			}
		}
		if got, e := lines.Line(k.text, 3); got != "\r" || e != api.OK {
			t.Errorf("examples: Line(3) of %s: %q, %v", k.name, got, e)
		}
	}
}

func TestExamplesOfColumns(t *testing.T) {
	for _, k := range keepers(t, exampleText) {
		for _, x := range []number{{0, 0, 0}, {1, 1, 0}, {2, 2, 0}, {3, 2, 0}, {4, 0, 0}, {5, 0, 0}, {7, 2, 0}, {8, 3, 0}, {9, 0, 0}, {10, 0, 0}, {11, 2, 0}} {
			if got, e := lines.Column(k.text, x.of); got != x.want || e != x.e {
				t.Errorf("examples: Column(%d) of %s: %d, %v", x.of, k.name, got, e)
			}
		}
		for _, x := range []struct {
			line int
			number
		}{
			{1, number{0, 4, 0}}, {1, number{1, 4, 0}}, {1, number{2, 7, 0}}, {1, number{3, 8, 0}}, {1, number{99, 8, 0}}, {1, number{-5, 4, 0}}, {2, number{7, 9, 0}}, {4, number{0, 0, api.ErrRange}},
		} {
			if got, e := lines.At(k.text, x.line, x.of); got != x.want || e != x.e {
				t.Errorf("examples: At(%d, %d) of %s: %d, %v", x.line, x.of, k.name, got, e)
			}
		}
	}
}

func TestExampleOfTheEmptyText(t *testing.T) {
	for _, k := range keepers(t, "") {
		if span, e := lines.Span(k.text, 0); lines.Count(k.text) != 1 || span != (api.Span{}) || e != api.OK {
			t.Errorf("examples: the empty text of %s: %d, %v, %v", k.name, lines.Count(k.text), span, e)
		}
	}
}
