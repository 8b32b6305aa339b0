package metric_test

import (
	"testing"

	"bodkin/api"
	"bodkin/metric"
)

// The chapter's examples, as they stand there.

func TestExamplesOfMeasure(t *testing.T) {
	for _, x := range []struct {
		s    string
		want api.Summary
	}{
		{"", api.Summary{}},
		{"a\r\n\u4e00", api.Summary{Bytes: 6, Units: 4, Clusters: 3, Cells: 3, Newlines: 1, Head: "a\r\n\u4e00", Tail: "a\r\n\u4e00"}},
		{"\xe2", api.Summary{Bytes: 1, Units: 1, Clusters: 1, Cells: 1, Head: "\xe2", Tail: "\xe2"}},
		{"\x82\xac", api.Summary{Bytes: 2, Units: 2, Clusters: 2, Cells: 2, Head: "\x82\xac", Tail: "\x82\xac"}},
		{"a\r", api.Summary{Bytes: 2, Units: 2, Clusters: 2, Cells: 3, Head: "a\r", Tail: "a\r"}},
		{"\n", api.Summary{Bytes: 1, Units: 1, Clusters: 1, Newlines: 1, Head: "\n", Tail: "\n"}},
		{"\u0301x", api.Summary{Bytes: 3, Units: 2, Clusters: 2, Cells: 2, Head: "\u0301x", Tail: "\u0301x"}},
	} {
		if got := metric.Measure(x.s); got != x.want {
			t.Errorf("examples: Measure(%q): %+v, want %+v", x.s, got, x.want)
		}
	}
}

func TestExamplesOfJoin(t *testing.T) {
	for _, x := range []struct {
		a, b string
		want api.Summary
	}{
		{"\xe2", "\x82\xac", api.Summary{Bytes: 3, Units: 1, Clusters: 1, Cells: 1, Head: "\u20ac", Tail: "\u20ac"}},
		{"a\r", "\n", api.Summary{Bytes: 3, Units: 3, Clusters: 2, Cells: 1, Newlines: 1, Head: "a\r\n", Tail: "a\r\n"}},
		{"e", "\u0301x", api.Summary{Bytes: 4, Units: 3, Clusters: 2, Cells: 2, Head: "e\u0301x", Tail: "e\u0301x"}},
	} {
		if got := metric.Join(metric.Measure(x.a), metric.Measure(x.b)); got != x.want {
			t.Errorf("examples: Join of %q and %q: %+v, want %+v", x.a, x.b, got, x.want)
		}
	}
}
