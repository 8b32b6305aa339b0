package word_test

import (
	"slices"
	"testing"

	"bodkin/api"
	"bodkin/word"
)

// The chapter's examples, as they stand there.

func TestExamplesOfSpans(t *testing.T) {
	for _, x := range []struct {
		text string
		want []api.Span
	}{
		{"ab, c_1  ", []api.Span{{From: 0, To: 2}, {From: 4, To: 7}}},
		{"", nil},
		{" \xff", nil},
		{"a\xffb", []api.Span{{From: 0, To: 1}, {From: 2, To: 3}}},
		{"-\u0301a", []api.Span{{From: 3, To: 4}}},
		{"\u0301a", []api.Span{{From: 0, To: 3}}},
	} {
		if got := word.Spans(x.text); !slices.Equal(got, x.want) {
			t.Errorf("examples: Spans(%q): %v, want %v", x.text, got, x.want)
		}
	}
}

func TestExamplesOfPlaces(t *testing.T) {
	for _, x := range []struct {
		name      string
		got, want int
	}{
		{"Ahead of 0", word.Ahead("ab cd", 0), 2},
		{"Ahead of 1", word.Ahead("ab cd", 1), 2},
		{"Ahead of 2", word.Ahead("ab cd", 2), 5},
		{"Ahead of 5", word.Ahead("ab cd", 5), 5},
		{"Behind of 5", word.Behind("ab cd", 5), 3},
		{"Behind of 3", word.Behind("ab cd", 3), 0},
		{"Behind of 4", word.Behind("ab cd", 4), 3},
		{"Behind of 0", word.Behind("ab cd", 0), 0},
		{"Behind two blanks", word.Behind("  ", 2), 0},
		{"Ahead of a blank at the end", word.Ahead("ab ", 2), 3},
	} {
		if x.got != x.want {
			t.Errorf("examples: %s: %d, want %d", x.name, x.got, x.want)
		}
	}
}

func TestExamplesOfCase(t *testing.T) {
	for _, x := range []struct{ name, got, want string }{
		{"Upper", word.Upper("stra\xc3\x9fe \xc3\xa9\xff"), "STRA\xc3\x9fE \xc3\x89\xff"},
		{"Lower", word.Lower("\xc5\xb8I\xc4\xb0"), "\xc3\xbfi\xc4\xb0"},
		{"Capital", word.Capital("heLLO 1wORLD a_b"), "Hello 1world A_b"},
	} {
		if x.got != x.want {
			t.Errorf("examples: %s: %q, want %q", x.name, x.got, x.want)
		}
	}
}
