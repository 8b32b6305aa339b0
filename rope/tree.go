package rope

import (
	"strings"

	"bodkin/api"
	"bodkin/cluster"
	"bodkin/metric"
)

// leaf is a Tree with a text of its own.
type leaf struct {
	text string
	sum  api.Summary
}

// Sum answers the summary of the leaf's text.
func (l *leaf) Sum() api.Summary { return l.sum }

// Parts answers that a leaf has none.
func (l *leaf) Parts() (left, right Tree, ok bool) { return nil, nil, false }

// Text answers the leaf's text.
func (l *leaf) Text() string { return l.text }

// knot is a Tree with the texts of two others, whose heights differ by at most 1: so one of height h has F(h) leaves or more.
type knot struct {
	left, right Tree
	height      int
	sum         api.Summary
}

// Sum answers the summary of both parts' texts.
func (k *knot) Sum() api.Summary { return k.sum }

// Parts answers both parts.
func (k *knot) Parts() (left, right Tree, ok bool) { return k.left, k.right, true }

// Text answers that a knot has no text of its own.
func (k *knot) Text() string { return "" }

// emptyLeaf answers the tree of the empty text. It also stands where there are no leaves.
func emptyLeaf() Tree {
	return &leaf{}
}

// leafOf answers a leaf with a copy of the text: as a piece of it, it would keep all of it in memory.
func leafOf(text string) Tree {
	return &leaf{strings.Clone(text), metric.Measure(text)}
}

// knotOf answers the knot of two trees whose heights differ by at most 1.
func knotOf(left, right Tree) Tree {
	return &knot{left, right, max(height(left), height(right)) + 1, metric.Join(left.Sum(), right.Sum())}
}

// height answers the height of a tree that this package made.
func height(t Tree) int {
	if k, ok := t.(*knot); ok {
		return k.height
	}
	return 0
}

// treeOf answers the tree of a text.
func treeOf(text string) Tree {
	var leaves []Tree
	for n := firstEnd(text); n < len(text); n = firstEnd(text) {
		leaves = append(leaves, leafOf(text[:n]))
		text = text[n:]
	}
	return treeOfLeaves(append(leaves, leafOf(text)))
}

// firstEnd answers where the first leaf of a text ends.
func firstEnd(text string) int {
	if len(text) <= api.MostLeaf {
		return len(text)
	}
	// Behind it there must be enough for another leaf. So far from both ends of the text, what stands beside it changes no boundary.
	furthest := len(text) - api.HalfLeaf
	full := min(api.MostLeaf, furthest)
	if at := cluster.Prev(text, full+1); at >= api.HalfLeaf {
		return at
	}
	if at := cluster.Next(text, full); at <= furthest {
		return at
	}
	return len(text)
}

// treeOfLeaves answers the tree of one or more leaves.
func treeOfLeaves(leaves []Tree) Tree {
	half := len(leaves) / 2
	if half == 0 {
		return leaves[0]
	}
	return knotOf(treeOfLeaves(leaves[:half]), treeOfLeaves(leaves[half:]))
}

// together answers the tree of the ropes' texts, one behind the other. By halves, a long cluster made of many short texts is not measured anew with each of them.
func together(ropes []*Rope) Tree {
	switch len(ropes) {
	case 0:
		return emptyLeaf()
	case 1:
		return ropes[0].Tree()
	}
	half := len(ropes) / 2
	front, back := together(ropes[:half]), together(ropes[half:])
	left, ahead := before(front, front.Sum().Bytes)
	behind, right := after(back, 0)
	return laid(left, ahead+behind, right)
}

// laid answers the tree of the leaves of left, a text that is to be cut into leaves, and the leaves of right.
func laid(left Tree, text string, right Tree) Tree {
	return link(link(left, treeOf(text)), right)
}

// before answers the leaves of t that can stay where the text changes from at on, and the bytes between them and at. These are HalfLeaf or more, if a leaf stays: enough for a leaf of their own, and so many that the change reaches no boundary of the leaves ahead of them.
func before(t Tree, at int) (Tree, string) {
	left, ahead := headOf(t, at)
	if len(ahead) >= api.HalfLeaf {
		return left, ahead
	}
	left, last := headOf(left, left.Sum().Bytes)
	return left, last + ahead
}

// after answers, likewise, the bytes of t from at on and the leaves behind them that can stay where the text changes up to at.
func after(t Tree, at int) (string, Tree) {
	behind, right := tailOf(t, at)
	if len(behind) >= api.HalfLeaf {
		return behind, right
	}
	first, right := tailOf(right, 0)
	return behind + first, right
}

// headOf answers the leaves of t ahead of the one in which the byte just ahead of at lies, and that one's bytes up to at.
func headOf(t Tree, at int) (Tree, string) {
	left, right, ok := t.Parts()
	if !ok {
		return emptyLeaf(), t.Text()[:at]
	}
	n := left.Sum().Bytes
	if at <= n {
		return headOf(left, at)
	}
	rest, ahead := headOf(right, at-n)
	return link(left, rest), ahead
}

// tailOf answers the bytes from at on of the leaf in which the byte at at lies, and the leaves of t behind it.
func tailOf(t Tree, at int) (string, Tree) {
	left, right, ok := t.Parts()
	if !ok {
		return t.Text()[at:], emptyLeaf()
	}
	n := left.Sum().Bytes
	if at >= n {
		return tailOf(right, at-n)
	}
	behind, rest := tailOf(left, at)
	return behind, link(rest, right)
}

// link answers the tree of the leaves of both trees.
func link(left, right Tree) Tree {
	if left.Sum().Bytes == 0 {
		return right
	}
	if right.Sum().Bytes == 0 {
		return left
	}
	switch more := height(left) - height(right); {
	case more > 1:
		outer, inner, _ := left.Parts()
		return balanced(outer, link(inner, right))
	case more < -1:
		inner, outer, _ := right.Parts()
		return balanced(link(left, inner), outer)
	}
	return knotOf(left, right)
}

// balanced answers the tree of two trees whose heights differ by at most 2.
func balanced(left, right Tree) Tree {
	switch {
	case height(left) > height(right)+1:
		return turnedRight(left, right)
	case height(right) > height(left)+1:
		return turnedLeft(left, right)
	}
	return knotOf(left, right)
}

// turnedRight answers the tree of two trees of which the left one is higher by 2: a part of it goes over to the right.
func turnedRight(left, right Tree) Tree {
	outer, inner, _ := left.Parts()
	if height(inner) <= height(outer) {
		return knotOf(outer, knotOf(inner, right))
	}
	near, far, _ := inner.Parts()
	return knotOf(knotOf(outer, near), knotOf(far, right))
}

// turnedLeft answers the tree of two trees of which the right one is higher by 2: a part of it goes over to the left.
func turnedLeft(left, right Tree) Tree {
	inner, outer, _ := right.Parts()
	if height(inner) <= height(outer) {
		return knotOf(knotOf(left, inner), outer)
	}
	near, far, _ := inner.Parts()
	return knotOf(knotOf(left, near), knotOf(far, outer))
}
