package metric_test

import (
	"bodkin/api"
	"bodkin/cluster"
	"bodkin/unit"
)

// This file tells summaries by the chapter's own words, from a whole text and from the lists of the layers below: the other tests hold the package against it.

// summaryOf is the summary of s.
func summaryOf(s string) api.Summary {
	clusters := cluster.List(s)
	m := api.Summary{Bytes: len(s), Units: len(unit.Units(s)), Clusters: len(clusters), Head: s, Tail: s}
	for _, c := range clusters {
		m.Cells += c.Cells
	}
	for _, b := range []byte(s) {
		if b == 0x0A {
			m.Newlines++
		}
	}
	if len(s) > 16 {
		m.Head, m.Tail = s[:16], s[len(s)-16:]
	}
	return m
}

// betweenOf is what stands in s from i up to j, both held to 0 and the length of s first.
func betweenOf(s string, i, j int) string {
	if i < 0 {
		i = 0
	}
	if i > len(s) {
		i = len(s)
	}
	if j < 0 {
		j = 0
	}
	if j > len(s) {
		j = len(s)
	}
	if j < i {
		return ""
	}
	return s[i:j]
}
