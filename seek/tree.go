package seek

import (
	"strings"

	"bodkin/api"
	"bodkin/metric"
	"bodkin/rope"
)

// Plain answers a leaf with the text.
func Plain(text string) rope.Tree {
	return &leaf{strings.Clone(text), metric.Measure(text)}
}

// Pair answers a knot of two trees.
func Pair(left, right rope.Tree) rope.Tree {
	left, right = some(left), some(right)
	return &knot{left, right, metric.Join(left.Sum(), right.Sum())}
}

// leaf is a Tree with a text of its own.
type leaf struct {
	text string
	sum  api.Summary
}

// Sum answers the summary of the leaf's text.
func (l *leaf) Sum() api.Summary { return l.sum }

// Parts answers that a leaf has none.
func (l *leaf) Parts() (left, right rope.Tree, ok bool) { return nil, nil, false }

// Text answers the leaf's text.
func (l *leaf) Text() string { return l.text }

// knot is a Tree with the texts of two others, in whatever shape they are.
type knot struct {
	left, right rope.Tree
	sum         api.Summary
}

// Sum answers the summary of both parts' texts.
func (k *knot) Sum() api.Summary { return k.sum }

// Parts answers both parts.
func (k *knot) Parts() (left, right rope.Tree, ok bool) { return k.left, k.right, true }

// Text answers that a knot has no text of its own.
func (k *knot) Text() string { return "" }

// some answers t, or the tree of the empty text in the place of nil.
func some(t rope.Tree) rope.Tree {
	if t == nil {
		return Plain("")
	}
	return t
}
