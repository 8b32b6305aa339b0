package rope_test

import (
	"math/big"
	"strconv"
	"testing"

	"bodkin/api"
	"bodkin/cluster"
	"bodkin/metric"
	"bodkin/rope"
)

// This file says what a rope with a given text must be, by the chapter's own words: the other tests hold every rope that is answered against it.

const (
	halfLeaf = 32
	mostLeaf = 64
)

// told is what is read of a tree by Parts and Text.
type told struct {
	leaves []string
	height int
}

// tell reads a tree whose text must be the given one, and holds each Sum against it.
func tell(t *testing.T, x rope.Tree, text string) told {
	t.Helper()
	if x == nil {
		t.Fatalf("P7.2: a nil Tree, for the text %.99q", text)
	}
	if got, want := x.Sum(), metric.Measure(text); got != want {
		t.Fatalf("P7.2: a Sum is %v, want %v, of %.99q", got, want, text)
	}
	left, right, ok := x.Parts()
	if !ok {
		if left != nil || right != nil || x.Text() != text {
			t.Fatalf("P7.2: a leaf's Parts are %v, %v, its Text %.99q, want %.99q", left, right, x.Text(), text)
		}
		return told{leaves: []string{text}}
	}
	if left == nil || right == nil || x.Text() != "" {
		t.Fatalf("P7.2: a knot's Parts are %v, %v, its Text %.99q", left, right, x.Text())
	}
	n := left.Sum().Bytes
	if n < 0 || n > len(text) {
		t.Fatalf("P7.2: a left part of %d bytes, in a text of %d", n, len(text))
	}
	a, b := tell(t, left, text[:n]), tell(t, right, text[n:])
	// Trees that are balanced so have F(h) leaves or more at every height, of which short texts show the lowest alone.
	if max(a.height, b.height)-min(a.height, b.height) > 1 {
		t.Fatalf("the shape, bound 5: a knot of parts with the heights %d and %d", a.height, b.height)
	}
	return told{append(a.leaves, b.leaves...), max(a.height, b.height) + 1}
}

// fewestLeaves answers F(height).
func fewestLeaves(height int) *big.Int {
	f, next := big.NewInt(1), big.NewInt(2)
	for range height {
		f, next = next, new(big.Int).Add(f, next)
	}
	return f
}

// tall tells whether a tree is higher than its number of leaves allows.
func tall(height, leaves int) bool {
	return fewestLeaves(height).Cmp(big.NewInt(int64(leaves))) > 0
}

// checkShape holds what was read of a tree against the shape's five bounds.
func checkShape(t *testing.T, x told, text string) {
	t.Helper()
	at := 0
	for n, s := range x.leaves {
		if len(x.leaves) > 1 && s == "" {
			t.Fatalf("the shape, bound 1: leaf %d of %d is empty", n, len(x.leaves))
		}
		end := at + len(s)
		if end > len(text) || text[at:end] != s {
			t.Fatalf("the shape, bound 1: leaf %d is %.99q at %d, in %.300q", n, s, at, text)
		}
		if !cluster.Boundary(text, end) {
			t.Fatalf("the shape, bound 2: leaf %d ends at %d, no boundary of %.300q", n, end, text)
		}
		if len(x.leaves) > 1 && len(s) < halfLeaf {
			t.Fatalf("the shape, bound 3: leaf %d of %d has %d bytes, in %.300q", n, len(x.leaves), len(s), text)
		}
		for k := at + halfLeaf; len(s) > mostLeaf && k <= end-halfLeaf; k++ {
			if cluster.Boundary(text, k) {
				t.Fatalf("the shape, bound 4: leaf %d from %d up to %d could be cut at %d, in %.300q", n, at, end, k, text)
			}
		}
		at = end
	}
	if at != len(text) {
		t.Fatalf("the shape, bound 1: the leaves end at %d of %d", at, len(text))
	}
	if tall(x.height, len(x.leaves)) {
		t.Fatalf("the shape, bound 5: height %d with %d leaves", x.height, len(x.leaves))
	}
}

// look holds all that is seen of a rope without numbers against the text that it must have.
func look(t *testing.T, r *rope.Rope, text string) {
	t.Helper()
	if got := r.Text(); got != text || r.Len() != len(text) {
		t.Fatalf("P7.1: the text is %.300q of %d bytes, want %.300q", got, r.Len(), text)
	}
	if got, want := r.Sum(), metric.Measure(text); got != want {
		t.Fatalf("P7.1: the Sum is %v, want %v, of %.300q", got, want, text)
	}
	x := tell(t, r.Tree(), text)
	if r.Height() != x.height {
		t.Fatalf("P7.1: the height is %d, and the tree's %d", r.Height(), x.height)
	}
	checkShape(t, x, text)
	checkLeaves(t, r, x.leaves)
}

// checkLeaves holds what Leaves yields against the leaves.
func checkLeaves(t *testing.T, r *rope.Rope, leaves []string) {
	t.Helper()
	n, want := 0, 0
	for at, s := range r.Leaves() {
		if n >= len(leaves) || at != want || s != leaves[n] {
			t.Fatalf("P7.3: leaf %d is %.99q at %d, want it at %d, of %.300q", n, s, at, want, leaves)
		}
		n++
		want += len(s)
	}
	if n != len(leaves) {
		t.Fatalf("P7.3: %d leaves, want %d", n, len(leaves))
	}
}

// lookBetween holds Slice and Measure against the text.
func lookBetween(t *testing.T, r *rope.Rope, text string, from, to int) {
	t.Helper()
	want, wantE := "", api.ErrRange
	var wantM api.Summary
	if 0 <= from && from <= to && to <= len(text) {
		want, wantM, wantE = text[from:to], metric.Measure(text[from:to]), api.OK
	}
	if s, e := r.Slice(from, to); s != want || e != wantE {
		t.Fatalf("P7.4: Slice(%d, %d) of %.300q: %.300q, %v, want %.300q, %v", from, to, text, s, e, want, wantE)
	}
	if m, e := r.Measure(from, to); m != wantM || e != wantE {
		t.Fatalf("P7.4: Measure(%d, %d) of %.300q: %v, %v, want %v, %v", from, to, text, m, e, wantM, wantE)
	}
}

// replace does an edit on a rope and on its text, looks at what is answered, and answers both.
func replace(t *testing.T, r *rope.Rope, text string, at, cut int, put string) (*rope.Rope, string) {
	t.Helper()
	next, out, e := r.Replace(at, cut, put)
	sum := new(big.Int).Add(big.NewInt(int64(at)), big.NewInt(int64(cut)))
	if at < 0 || cut < 0 || sum.Cmp(big.NewInt(int64(len(text)))) > 0 {
		if next != nil || out != "" || e != api.ErrRange {
			t.Fatalf("P7.5: Replace(%d, %d, %.99q) of %d bytes: %v, %.99q, %v", at, cut, put, len(text), next, out, e)
		}
		return r, text
	}
	if next == nil || out != text[at:at+cut] || e != api.OK {
		t.Fatalf("P7.5: Replace(%d, %d, %.99q) of %.300q: %.99q, %v", at, cut, put, text, out, e)
	}
	text = text[:at] + put + text[at+cut:]
	look(t, next, text)
	return next, text
}

// split does a Split, looks at what is answered, and answers both ropes.
func split(t *testing.T, r *rope.Rope, text string, at int) (*rope.Rope, *rope.Rope) {
	t.Helper()
	a, b, e := r.Split(at)
	if at < 0 || at > len(text) {
		if a != nil || b != nil || e != api.ErrRange {
			t.Fatalf("P7.6: Split(%d) of %d bytes: %v, %v, %v", at, len(text), a, b, e)
		}
		return nil, nil
	}
	if a == nil || b == nil || e != api.OK {
		t.Fatalf("P7.6: Split(%d) of %.300q: %v, %v, %v", at, text, a, b, e)
	}
	look(t, a, text[:at])
	look(t, b, text[at:])
	return a, b
}

// drawn writes a tree down, with its summaries.
func drawn(x rope.Tree) string {
	m := x.Sum()
	sum := strconv.Itoa(m.Bytes) + "," + strconv.Itoa(m.Units) + "," + strconv.Itoa(m.Clusters) + "," + strconv.Itoa(m.Cells) + "," + strconv.Itoa(m.Newlines) + m.Head + "," + m.Tail
	left, right, ok := x.Parts()
	if !ok {
		return "[" + sum + " " + x.Text() + "]"
	}
	return "(" + sum + drawn(left) + drawn(right) + ")"
}

// kept is a rope with all that was asked of it when it was made.
type kept struct {
	r      *rope.Rope
	text   string
	drawn  string
	height int
}

func keep(r *rope.Rope, text string) kept {
	return kept{r, text, drawn(r.Tree()), r.Height()}
}

// again asks the rope all that once more.
func (k kept) again(t *testing.T) {
	t.Helper()
	if k.r.Text() != k.text || k.r.Len() != len(k.text) || k.r.Height() != k.height {
		t.Fatalf("P7.7: the text was %.300q, and is %.300q", k.text, k.r.Text())
	}
	if got := drawn(k.r.Tree()); got != k.drawn {
		t.Fatalf("P7.7: the tree was %.300q, and is %.300q", k.drawn, got)
	}
	for at, s := range k.r.Leaves() {
		if k.text[at:at+len(s)] != s {
			t.Fatalf("P7.7: a leaf at %d became %.99q", at, s)
		}
	}
}
