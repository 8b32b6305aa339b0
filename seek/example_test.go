package seek_test

import (
	"testing"

	"bodkin/api"
	"bodkin/rope"
	"bodkin/seek"
)

// The chapter's examples, as they stand there.

const exampleText = "\x61\xcc\x81\x0d\x0a\xe4\xb8\x80\x0a\x01"

func TestExamplesOfCounts(t *testing.T) {
	for _, x := range shapesOf(exampleText) {
		for _, row := range []struct {
			name      string
			call      func(rope.Tree, int) int
			ats, want []int
		}{
			{"Clusters", seek.Clusters, []int{0, 1, 3, 4, 5, 10, 99}, []int{0, 1, 1, 2, 2, 5, 5}},
			{"Lines", seek.Lines, []int{4, 5, 8, 9}, []int{0, 1, 1, 2}},
			{"Cells", seek.Cells, []int{2, 3, 5, 7, 8, 9, 10}, []int{0, 1, 1, 1, 3, 3, 5}},
		} {
			for n, at := range row.ats {
				if got := row.call(x.tree, at); got != row.want[n] {
					t.Errorf("examples, %s: %s at %d: %d, want %d", x.name, row.name, at, got, row.want[n])
				}
			}
		}
	}
}

func TestExamplesOfPlaces(t *testing.T) {
	for _, x := range shapesOf(exampleText) {
		for _, row := range []struct {
			name     string
			call     func(rope.Tree, int) (int, api.Errno)
			ns, want []int
			wrong    []int
		}{
			{"Cluster", seek.Cluster, []int{0, 1, 2, 4, 5}, []int{0, 3, 5, 9, 10}, []int{-1, 6}},
			{"Line", seek.Line, []int{0, 1, 2}, []int{0, 5, 9}, []int{3, -1}},
			{"Cell", seek.Cell, []int{0, 1, 2, 3, 4}, []int{0, 5, 5, 9, 9}, []int{5, -1}},
		} {
			for n, number := range row.ns {
				if got, e := row.call(x.tree, number); got != row.want[n] || e != api.OK {
					t.Errorf("examples, %s: %s %d: %d, %v, want %d", x.name, row.name, number, got, e, row.want[n])
				}
			}
			for _, number := range row.wrong {
				if got, e := row.call(x.tree, number); got != 0 || e != api.ErrRange {
					t.Errorf("examples, %s: %s %d: %d, %v", x.name, row.name, number, got, e)
				}
			}
		}
	}
}

func TestExampleOfPair(t *testing.T) {
	x := seek.Pair(seek.Plain("e"), seek.Plain("\u0301"))
	if n := seek.Clusters(x, 3); n != 1 {
		t.Error("examples: Clusters at 3:", n)
	}
	if at, e := seek.Cluster(x, 1); at != 3 || e != api.OK {
		t.Error("examples: Cluster 1:", at, e)
	}
}

func TestExampleOfNil(t *testing.T) {
	if at, e := seek.Cluster(nil, 0); at != 0 || e != api.OK {
		t.Error("examples: Cluster 0 of nil:", at, e)
	}
	if at, e := seek.Line(nil, 0); at != 0 || e != api.OK {
		t.Error("examples: Line 0 of nil:", at, e)
	}
	if at, e := seek.Cell(nil, 0); at != 0 || e != api.ErrRange {
		t.Error("examples: Cell 0 of nil:", at, e)
	}
}
