package rope_test

import (
	"strings"
	"testing"

	"bodkin/api"
	"bodkin/metric"
	"bodkin/rope"
)

// The chapter's examples, as they stand there.

// lengths lists the lengths of a rope's leaves.
func lengths(r *rope.Rope) []int {
	var list []int
	for _, s := range r.Leaves() {
		list = append(list, len(s))
	}
	return list
}

func TestExamplesOfLetters(t *testing.T) {
	r := rope.New("")
	if l := lengths(r); r.Height() != 0 || len(l) != 1 || l[0] != 0 || r.Sum() != (api.Summary{}) {
		t.Error("examples: the empty text:", r.Height(), l, r.Sum())
	}
	for at, s := range r.Leaves() {
		if at != 0 || s != "" {
			t.Errorf("examples: the empty text's leaf: %q at %d", s, at)
		}
	}
	r = rope.New(strings.Repeat("a", 64))
	if l := lengths(r); !(r.Height() == 0 && len(l) == 1) && !(r.Height() == 1 && len(l) == 2 && l[0] == 32 && l[1] == 32) {
		t.Error("examples: 64 letters:", r.Height(), l)
	}
	r = rope.New(strings.Repeat("a", 65))
	if l := lengths(r); r.Height() != 1 || len(l) != 2 || l[0] != 32 && l[0] != 33 || l[0]+l[1] != 65 {
		t.Error("examples: 65 letters:", r.Height(), l)
	}
}

func TestExamplesOfClusters(t *testing.T) {
	r := rope.New("e" + strings.Repeat("\u0301", 100))
	if l := lengths(r); r.Height() != 0 || len(l) != 1 || l[0] != 201 || r.Sum().Clusters != 1 {
		t.Error("examples: a letter and 100 marks:", r.Height(), l)
	}
	r = rope.New(strings.Repeat("a", 20) + strings.Repeat("\u0301", 20) + strings.Repeat("b", 20))
	if l := lengths(r); r.Height() != 0 || len(l) != 1 || l[0] != 80 {
		t.Error("examples: letters, marks, letters:", r.Height(), l)
	}
}

func TestExamplesOfSeams(t *testing.T) {
	forty := strings.Repeat("a", 40)
	for at := range rope.Concat(rope.New(forty), rope.New("\u0301"+forty)).Leaves() {
		if at == 40 {
			t.Error("examples: a leaf ends at 40")
		}
	}
	if m := rope.Concat(rope.New("\xe2"), rope.New("\x82\xac")).Sum(); m != metric.Measure("\u20ac") {
		t.Error("examples: a character of two ropes:", m)
	}
}

func TestExamplesOfEdits(t *testing.T) {
	r := rope.New("abc")
	if x, out, e := r.Replace(1, 1, "XY"); x.Text() != "aXYc" || out != "b" || e != api.OK {
		t.Error("examples: Replace:", x.Text(), out, e)
	}
	if x, out, e := r.Replace(2, 2, ""); x != nil || out != "" || e != api.ErrRange {
		t.Error("examples: Replace of too much:", out, e)
	}
	if a, b, e := r.Split(3); a.Text() != "abc" || b.Text() != "" || e != api.OK {
		t.Error("examples: Split at the end:", a.Text(), b.Text(), e)
	}
	if a, b, e := r.Split(4); a != nil || b != nil || e != api.ErrRange {
		t.Error("examples: Split above the end:", e)
	}
}
