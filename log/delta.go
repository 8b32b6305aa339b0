package log

import (
	"bytes"
	"slices"
	"strings"

	"bodkin/api"
)

// Invert answers the delta that takes d back.
func Invert(d api.Delta) api.Delta {
	return api.Delta{At: d.At, Out: strings.Clone(d.In), In: strings.Clone(d.Out)}
}

// Apply answers the text behind all of deltas, done one after the other; false if one of them doesn't fit the text that it meets.
func Apply(text string, deltas ...api.Delta) (string, bool) {
	done := []byte(text)
	for _, d := range deltas {
		if !fits(done, d) {
			return "", false
		}
		done = slices.Replace(done, d.At, d.At+len(d.Out), []byte(d.In)...)
	}
	return string(done), true
}

// fits answers whether d.Out stands at d.At.
func fits(text []byte, d api.Delta) bool {
	return 0 <= d.At && d.At <= len(text) && bytes.HasPrefix(text[d.At:], []byte(d.Out))
}

// Merge answers the one delta that does what a and right behind it b do; false if there is none.
func Merge(a, b api.Delta) (api.Delta, bool) {
	if !touch(a, b) {
		return api.Delta{}, false
	}
	// All is counted from a.At on, as numbers near the greatest int would wrap round: b.Out begins at shift, and lies upon a.In from from up to to.
	shift := b.At - a.At
	from, to := max(shift, 0), min(shift+len(b.Out), len(a.In))
	if a.In[from:to] != b.Out[from-shift:to-shift] {
		return api.Delta{}, false
	}
	return api.Delta{
		At:  min(a.At, b.At),
		Out: joined(b.Out[:from-shift], a.Out, b.Out[to-shift:]),
		In:  joined(a.In[:from], b.In, a.In[to:]),
	}, true
}

// touch answers whether a.In and b.Out overlap, or stand side by side.
func touch(a, b api.Delta) bool {
	// Two numbers that are 0 or more have a difference that can't wrap round, as a sum can.
	return 0 <= a.At && 0 <= b.At && b.At-a.At <= len(a.In) && a.At-b.At <= len(b.Out)
}

// joined answers the three texts one behind the other. It is new memory even where only one of them isn't empty: + would answer that one itself.
func joined(first, second, third string) string {
	return strings.Join([]string{first, second, third}, "")
}

// copied answers d in memory of its own.
func copied(d api.Delta) api.Delta {
	return api.Delta{At: d.At, Out: strings.Clone(d.Out), In: strings.Clone(d.In)}
}

// empty answers whether d does nothing to any text.
func empty(d api.Delta) bool {
	return d.Out == "" && d.In == ""
}

// undoing answers the deltas that take back what deltas did.
func undoing(deltas []api.Delta) []api.Delta {
	back := make([]api.Delta, 0, len(deltas))
	for _, d := range slices.Backward(deltas) {
		back = append(back, Invert(d))
	}
	return back
}

// redoing answers the deltas that do again what deltas did.
func redoing(deltas []api.Delta) []api.Delta {
	again := make([]api.Delta, 0, len(deltas))
	for _, d := range deltas {
		again = append(again, copied(d))
	}
	return again
}
