package store

import (
	"bodkin/api"
	"bodkin/gap"
	"bodkin/rope"
)

// roped is a Text kept by a rope: as that never changes, an edit takes the next one in its place.
type roped struct {
	rope  *rope.Rope
	limit int
}

// Len answers the text's length.
func (r *roped) Len() int {
	return r.rope.Len()
}

// Slice answers the bytes from from up to to.
func (r *roped) Slice(from, to int) (string, api.Errno) {
	return r.rope.Slice(from, to)
}

// Measure answers the summary of the bytes from from up to to.
func (r *roped) Measure(from, to int) (api.Summary, api.Errno) {
	return r.rope.Measure(from, to)
}

// Replace puts put in the place of the cut bytes from at on, and answers those.
func (r *roped) Replace(at, cut int, put string) (string, api.Errno) {
	n := r.Len()
	if at < 0 || cut < 0 || n-at < cut {
		return "", api.ErrRange
	}
	// A rope has no limit of its own.
	if len(put) > r.limit-(n-cut) {
		return "", api.ErrFull
	}
	next, out, _ := r.rope.Replace(at, cut, put)
	r.rope = next
	return out, api.OK
}

// backend answers which of the two t is.
func backend(t Text) api.Kind {
	switch t.(type) {
	case *roped:
		return api.KindRope
	}
	return api.KindGap
}

// moved answers the text of t, which fits its limit, kept by the other backend.
func moved(t Text, limit int) Text {
	switch t := t.(type) {
	case *gap.Buffer:
		return &roped{rope.New(t.Text()), limit}
	case *roped:
		b, _ := gap.New(t.rope.Text(), limit)
		return b
	}
	return t
}

// copied answers a text of its own that is like t.
func copied(t Text) Text {
	switch t := t.(type) {
	case *gap.Buffer:
		return t.Clone()
	case *roped:
		// The rope itself never changes, so both may have it.
		return &roped{t.rope, t.limit}
	}
	return t
}
