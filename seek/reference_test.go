package seek_test

import (
	"testing"

	"bodkin/api"
	"bodkin/cluster"
	"bodkin/rope"
	"bodkin/seek"
)

// This file says what is answered of a plain text, by the chapter's own words, and lays texts together in many shapes: the other tests hold the trees against it.

// reference is what the chapter says of one text.
type reference struct {
	text     string
	clusters []api.Cluster
	feeds    []int // the offsets of the bytes LF
	owners   []int // of each cell the byte at which its cluster begins
}

func referenceOf(text string) reference {
	r := reference{text: text, clusters: cluster.List(text)}
	for at := range len(text) {
		if text[at] == 0x0A {
			r.feeds = append(r.feeds, at)
		}
	}
	for _, c := range r.clusters {
		for range c.Cells {
			r.owners = append(r.owners, c.At)
		}
	}
	return r
}

// counts are what is answered of an offset.
type counts struct {
	clusters, lines, cells int
}

func (r reference) countsAt(at int) counts {
	at = min(max(at, 0), len(r.text))
	var want counts
	for _, c := range r.clusters {
		if c.At < at {
			want.clusters++
		}
		if c.To <= at {
			want.cells += c.Cells
		}
	}
	for _, feed := range r.feeds {
		if feed < at {
			want.lines++
		}
	}
	return want
}

func countsOf(x rope.Tree, at int) counts {
	return counts{seek.Clusters(x, at), seek.Lines(x, at), seek.Cells(x, at)}
}

// place is one answer to a number.
type place struct {
	at int
	e  api.Errno
}

// places are what is answered of a number.
type places struct {
	cluster, line, cell place
}

func (r reference) placesAt(n int) places {
	wrong := place{0, api.ErrRange}
	want := places{wrong, wrong, wrong}
	if 0 <= n && n < len(r.clusters) {
		want.cluster = place{r.clusters[n].At, api.OK}
	}
	if n == len(r.clusters) {
		want.cluster = place{len(r.text), api.OK}
	}
	if n == 0 {
		want.line = place{0, api.OK}
	}
	if 0 < n && n <= len(r.feeds) {
		want.line = place{r.feeds[n-1] + 1, api.OK}
	}
	if 0 <= n && n < len(r.owners) {
		want.cell = place{r.owners[n], api.OK}
	}
	return want
}

func placesOf(x rope.Tree, n int) places {
	var got places
	got.cluster.at, got.cluster.e = seek.Cluster(x, n)
	got.line.at, got.line.e = seek.Line(x, n)
	got.cell.at, got.cell.e = seek.Cell(x, n)
	return got
}

// checkAt holds the counts at one offset against the text.
func (r reference) checkAt(t *testing.T, x rope.Tree, name string, at int) {
	t.Helper()
	got, want := countsOf(x, at), r.countsAt(at)
	switch {
	case got.clusters != want.clusters:
		t.Fatalf("P8.2, %s: Clusters of %.300q at %d: %d, want %d", name, r.text, at, got.clusters, want.clusters)
	case got.lines != want.lines:
		t.Fatalf("P8.3, %s: Lines of %.300q at %d: %d, want %d", name, r.text, at, got.lines, want.lines)
	case got.cells != want.cells:
		t.Fatalf("P8.4, %s: Cells of %.300q at %d: %d, want %d", name, r.text, at, got.cells, want.cells)
	}
}

// checkNumber holds the places of one number against the text.
func (r reference) checkNumber(t *testing.T, x rope.Tree, name string, n int) {
	t.Helper()
	got, want := placesOf(x, n), r.placesAt(n)
	switch {
	case got.cluster != want.cluster:
		t.Fatalf("P8.2, %s: Cluster %d of %.300q: %v, want %v", name, n, r.text, got.cluster, want.cluster)
	case got.line != want.line:
		t.Fatalf("P8.3, %s: Line %d of %.300q: %v, want %v", name, n, r.text, got.line, want.line)
	case got.cell != want.cell:
		t.Fatalf("P8.4, %s: Cell %d of %.300q: %v, want %v", name, n, r.text, got.cell, want.cell)
	}
}

// check holds a tree against the text at every offset and every number, and beside them.
func (r reference) check(t *testing.T, x rope.Tree, name string) {
	t.Helper()
	for at := -2; at <= len(r.text)+2; at++ {
		r.checkAt(t, x, name, at)
	}
	for n := -2; n <= max(len(r.clusters), len(r.feeds), len(r.owners))+2; n++ {
		r.checkNumber(t, x, name, n)
	}
	for _, n := range wrongNumbers {
		r.checkAt(t, x, name, n)
		r.checkNumber(t, x, name, n)
	}
}

// checkMiddle holds a tree against the text at the offsets from from up to to and at the numbers of what lies there, with some beside them.
func (r reference) checkMiddle(t *testing.T, x rope.Tree, name string, from, to int) {
	t.Helper()
	for at := from - 4; at <= to+4; at++ {
		r.checkAt(t, x, name, at)
	}
	low, high := r.countsAt(from-4), r.countsAt(to+4)
	for n := min(low.clusters, low.lines, low.cells); n <= max(high.clusters, high.lines, high.cells)+1; n++ {
		r.checkNumber(t, x, name, n)
	}
}

// shape is a tree, and how it was laid.
type shape struct {
	name string
	tree rope.Tree
}

// shapesOf lays a text together in many ways: whole, as a rope, in two pieces, and byte by byte.
func shapesOf(text string) []shape {
	list := []shape{{"whole", seek.Plain(text)}, {"a rope", rope.New(text).Tree()}}
	list = append(list, pairsOf(text)...)
	return append(list, layingsOf(singleBytes(text))...)
}

// pairsOf cuts a text at every place.
func pairsOf(text string) []shape {
	var list []shape
	for at := 0; at <= len(text); at++ {
		list = append(list,
			shape{"two pieces", seek.Pair(seek.Plain(text[:at]), seek.Plain(text[at:]))},
			shape{"two ropes", seek.Pair(rope.New(text[:at]).Tree(), rope.New(text[at:]).Tree())})
	}
	return list
}

// layingsOf lays pieces together in several shapes.
func layingsOf(pieces []string) []shape {
	return []shape{
		{"to the left", leaning(pieces)},
		{"to the right", leaningRight(pieces)},
		{"by halves", halved(pieces)},
		{"with nothing between", sparse(pieces)},
	}
}

// leaning lays each piece to the right of all pieces ahead of it.
func leaning(pieces []string) rope.Tree {
	if len(pieces) == 0 {
		return nil
	}
	x := seek.Plain(pieces[0])
	for _, p := range pieces[1:] {
		x = seek.Pair(x, seek.Plain(p))
	}
	return x
}

// leaningRight lays each piece to the left of all pieces behind it.
func leaningRight(pieces []string) rope.Tree {
	var x rope.Tree
	for n := len(pieces) - 1; n >= 0; n-- {
		x = seek.Pair(seek.Plain(pieces[n]), x)
	}
	return x
}

// halved lays a balanced tree.
func halved(pieces []string) rope.Tree {
	switch len(pieces) {
	case 0:
		return seek.Plain("")
	case 1:
		return seek.Plain(pieces[0])
	}
	half := len(pieces) / 2
	return seek.Pair(halved(pieces[:half]), halved(pieces[half:]))
}

// sparse lays nil trees, empty pieces and knots of nothing ahead of, between and behind the pieces.
func sparse(pieces []string) rope.Tree {
	x := seek.Pair(nil, nil)
	for n, p := range pieces {
		next := seek.Pair(seek.Pair(nil, seek.Plain(p)), seek.Pair(seek.Plain(""), rope.New("").Tree()))
		if n%2 == 0 {
			x = seek.Pair(x, next)
		} else {
			x = seek.Pair(seek.Pair(x, nil), next)
		}
	}
	return seek.Pair(x, seek.Plain(""))
}

// singleBytes are the bytes of s, each a text.
func singleBytes(s string) []string {
	var list []string
	for at := range len(s) {
		list = append(list, s[at:at+1])
	}
	return list
}
