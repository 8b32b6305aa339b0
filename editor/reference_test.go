package editor_test

import (
	"maps"
	"slices"
	"strings"

	"bodkin/api"
	"bodkin/cluster"
)

// This file has what an editor is made of as whole texts and plain lists, by the words of the chapters 12 to 15; reference_do_test.go has the commands. The other tests hold the package against both.

// standing is a text, its cursor and its marks. None is ever changed: another takes its place.
type standing struct {
	text   string
	cursor int
	marks  map[byte]int
}

// list answers the marks in the order in which they are told: @ has a lower number than the letters.
func (s standing) list() []api.Mark {
	var list []api.Mark
	for _, name := range slices.Sorted(maps.Keys(s.marks)) {
		list = append(list, api.Mark{Name: name, At: s.marks[name]})
	}
	return list
}

// with answers the standing with one mark more.
func (s standing) with(name byte, at int) standing {
	s.marks = maps.Clone(s.marks)
	s.marks[name] = at
	return s
}

// edited answers the standing behind an edit of other bytes than were there.
func (s standing) edited(at, cut int, put string, cursor int) standing {
	next := standing{text: s.text[:at] + put + s.text[at+cut:], marks: map[byte]int{}}
	next.cursor = cluster.Snap(next.text, cursor)
	for name, place := range s.marks {
		switch {
		case place > at && place < at+cut:
			place = at
		case place >= at+cut && place > at:
			place += len(put) - cut
		}
		next.marks[name] = cluster.Snap(next.text, place)
	}
	return next
}

// step is what one edit is to a store: how long the text is on both sides of it, and how many bytes go out and come in.
type step struct {
	ahead, behind, edited int
}

// plainGroup is a group with whole texts; the steps are there for the counts alone.
type plainGroup struct {
	ahead, behind standing
	steps         []step
}

// plainBuffer is what a buffer is seen to be.
type plainBuffer struct {
	now           standing
	undos, redos  []plainGroup
	run           int
	bound, limit  int
	kind, backend api.Kind
	lo, hi        int
	counts        api.Counts
}

// held answers what n counts as between 0 and most.
func held(n, most int) int {
	switch {
	case n < 0:
		return 0
	case n > most:
		return most
	}
	return n
}

func newPlainBuffer(c api.Config) plainBuffer {
	b := plainBuffer{bound: held(c.Undo, 1000), limit: held(c.Text, 1073741824), lo: held(c.Low, 1073741824), hi: c.High, kind: c.Store, backend: c.Store}
	b.now.marks = map[byte]int{}
	if b.hi <= b.lo {
		b.hi = b.lo + 1
	}
	if b.kind != 1 && b.kind != 2 {
		b.kind, b.backend = 3, 1
	}
	return b
}

// stored counts an edit behind which the text has that length.
func (b *plainBuffer) stored(length, edited int) {
	b.counts.Edited += edited
	if b.kind == 3 && (b.backend == 1 && length >= b.hi || b.backend == 2 && length <= b.lo) {
		b.backend = 3 - b.backend
		b.counts.Moves++
	}
}

// replace is layer 15's Do of one edit.
func (b *plainBuffer) replace(at, cut int, put string, cursor int, run bool) api.Errno {
	ahead, length := b.now, len(b.now.text)-cut+len(put)
	if length > b.limit {
		return 2
	}
	if ahead.text[at:at+cut] == put {
		b.now.cursor = cluster.Snap(ahead.text, cursor)
		b.run = 0
		return 0
	}
	b.now = ahead.edited(at, cut, put, cursor)
	b.stored(length, cut+len(put))
	b.group(plainGroup{ahead, b.now, []step{{len(ahead.text), length, cut + len(put)}}}, run)
	return 0
}

// group lays a group behind the others, or into the run's.
func (b *plainBuffer) group(g plainGroup, run bool) {
	if run && 1 <= b.run && b.run <= 19 {
		b.run++
		if b.bound > 0 {
			last := len(b.undos) - 1
			g.ahead, g.steps = b.undos[last].ahead, append(slices.Clone(b.undos[last].steps), g.steps...)
			b.undos = append(slices.Clone(b.undos[:last]), g)
		}
		return
	}
	b.run = 0
	if run {
		b.run = 1
	}
	b.redos = nil
	b.undos = append(slices.Clone(b.undos), g)
	if len(b.undos) > b.bound {
		b.undos = b.undos[1:]
	}
}

func (b *plainBuffer) undo() api.Errno {
	if len(b.undos) == 0 {
		return 3
	}
	g := b.undos[len(b.undos)-1]
	b.undos, b.redos = b.undos[:len(b.undos)-1], append(slices.Clone(b.redos), g)
	for _, s := range slices.Backward(g.steps) {
		b.stored(s.ahead, s.edited)
	}
	b.now, b.run = g.ahead, 0
	return 0
}

func (b *plainBuffer) redo() api.Errno {
	if len(b.redos) == 0 {
		return 4
	}
	g := b.redos[len(b.redos)-1]
	b.redos, b.undos = b.redos[:len(b.redos)-1], append(slices.Clone(b.undos), g)
	for _, s := range g.steps {
		b.stored(s.behind, s.edited)
	}
	b.now, b.run = g.behind, 0
	return 0
}

// reset makes text the text; it is never one that is too long.
func (b *plainBuffer) reset(text string) {
	was := len(b.now.text)
	b.now = standing{text, len(text), map[byte]int{}}
	b.undos, b.redos, b.run = nil, nil, 0
	b.stored(len(text), was+len(text))
}

func (b *plainBuffer) switchTo(to api.Kind) api.Errno {
	if to != 1 && to != 2 {
		return 13
	}
	if to != b.backend {
		b.backend = to
		b.counts.Forced++
	}
	return 0
}

// plainRing is what a ring is seen to be.
type plainRing struct {
	bound int
	// kills has the newest last, unlike the chapter.
	kills []string
	state string
	// turn counts from the newest.
	turn int
}

// kill has a text that isn't empty.
func (r *plainRing) kill(text string, ahead bool) {
	if last := len(r.kills) - 1; r.state == "killing" && last >= 0 {
		if ahead {
			text = text + r.kills[last]
		} else {
			text = r.kills[last] + text
		}
		r.kills = r.kills[:last]
	}
	r.lay(text)
	r.state = "killing"
}

func (r *plainRing) lay(text string) {
	r.kills = append(slices.Clone(r.kills), text)
	if len(r.kills) > r.bound {
		r.kills = r.kills[1:]
	}
}

// list answers the kills, the newest first.
func (r *plainRing) list() []string {
	list := slices.Clone(r.kills)
	slices.Reverse(list)
	return list
}

// plainHistory is what a history is seen to be.
type plainHistory struct {
	bound   int
	entries []string
	place   int
	drafts  map[int]string
}

func (h *plainHistory) add(line string) {
	again := len(h.entries) > 0 && h.entries[len(h.entries)-1] == line
	if line != "" && !again && h.bound > 0 {
		h.entries = append(slices.Clone(h.entries), line)
		if len(h.entries) > h.bound {
			h.entries = h.entries[1:]
		}
	}
	h.place, h.drafts = len(h.entries), map[int]string{}
}

// leave goes to a place that there is.
func (h *plainHistory) leave(to int, now string) string {
	h.drafts[h.place] = now
	h.place = to
	if text, ok := h.drafts[to]; ok {
		return text
	}
	if to == len(h.entries) {
		return ""
	}
	return h.entries[to]
}

// find tries the entries from the oldest on: the last one that it finds is the newest.
func (h *plainHistory) find(part string, below int) (number, offset int, ok bool) {
	for n, entry := range h.entries {
		if n < below && part != "" && strings.Contains(entry, part) {
			number, ok = n, true
			for at := range len(entry) {
				if strings.HasPrefix(entry[at:], part) {
					offset = at
				}
			}
		}
	}
	return number, offset, ok
}
