package buffer

import (
	"errors"

	"bodkin/api"
	"bodkin/marks"
)

// stay is the cursor of a Do that lets it go by the deltas.
const stay = -1

// refusal is what a check gives up with, however deep it is: an error of a type of its own, so that it isn't taken for a fault of the program.
type refusal struct {
	why api.Errno
}

// Error tells the refusal.
func (r refusal) Error() string { return "refused: " + r.why.Error() }

// Unwrap answers why it was refused.
func (r refusal) Unwrap() error { return r.why }

// Do does edits one behind the other as one group, or goes on with the run's group, and lays the cursor; or it does nothing at all.
func (b *Buffer) Do(edits []api.Edit, cursor int, run bool) api.Errno {
	// Of nil all is refused that would change something.
	if e := b.refused(edits, cursor); e != api.OK || b == nil {
		return e
	}
	ahead := b.where()
	deltas := b.edit(edits)
	b.follow(deltas, cursor)
	b.keep(ahead, deltas, run)
	return api.OK
}

// refused answers why edits and cursor can't be done, or OK. Lengths alone tell it ahead of the first edit: what was done to the store could be taken back, but not its counts.
func (b *Buffer) refused(edits []api.Edit, cursor int) (e api.Errno) {
	defer func() {
		switch given := recover().(type) {
		case nil:
		case refusal:
			e = number(given)
		default:
			panic(given)
		}
	}()
	checkCursor(cursor, b.lengthBehind(edits))
	return api.OK
}

// number answers the number of the error that err wraps.
func number(err error) api.Errno {
	if errors.Is(err, api.ErrFull) {
		return api.ErrFull
	}
	return api.ErrRange
}

// checkCursor gives up if a text of that length has no place for the cursor.
func checkCursor(cursor, length int) {
	if cursor < stay || cursor > length {
		panic(refusal{api.ErrRange})
	}
}

// lengthBehind answers the length that the text has behind all of edits, or gives up at the first that can't be done.
func (b *Buffer) lengthBehind(edits []api.Edit) int {
	length, limit := b.Len(), b.Store().Limit()
	for _, edit := range edits {
		checkRange(edit, length)
		length += len(edit.Put) - edit.Cut
		checkLimit(length, limit)
	}
	return length
}

// checkRange gives up if edit cuts what a text of that length doesn't have.
func checkRange(edit api.Edit, length int) {
	// The difference of two numbers that are 0 or more can't wrap round, as the sum of At and Cut can.
	if edit.At < 0 || edit.Cut < 0 || edit.Cut > length-edit.At {
		panic(refusal{api.ErrRange})
	}
}

// checkLimit gives up if a text of that length is too long.
func checkLimit(length, limit int) {
	if length > limit {
		panic(refusal{api.ErrFull})
	}
}

// edit does edits, none of which is refused, and answers the deltas of those that change something.
func (b *Buffer) edit(edits []api.Edit) []api.Delta {
	var deltas []api.Delta
	for _, edit := range edits {
		if b.stands(edit) {
			continue
		}
		out, _ := b.store.Replace(edit.At, edit.Cut, edit.Put)
		deltas = append(deltas, api.Delta{At: edit.At, Out: out, In: edit.Put})
	}
	return deltas
}

// stands answers whether what edit cuts is just what it puts.
func (b *Buffer) stands(edit api.Edit) bool {
	if edit.Cut != len(edit.Put) {
		return false
	}
	out, _ := b.store.Slice(edit.At, edit.At+edit.Cut)
	return out == edit.Put
}

// follow brings the marks, and the cursor if it is to go with them, where deltas take them, and all of them to boundaries.
func (b *Buffer) follow(deltas []api.Delta, cursor int) {
	if cursor == stay {
		cursor = marks.Moved(b.cursor, deltas...)
	}
	b.cursor = b.store.Snap(cursor)
	b.marks.Move(deltas...)
	b.marks.Snap(&b.store)
}

// keep lays deltas into the run's group, or into a new one with ahead beside it, and counts the run.
func (b *Buffer) keep(ahead places, deltas []api.Delta, run bool) {
	if len(deltas) == 0 {
		b.Rest()
		return
	}
	if !run || b.run == api.MostRun {
		b.Rest()
	}
	// With the bound 0 a run has no group that could be gone on with.
	if b.run == 0 || !b.log.Resume() {
		b.log.Begin(ahead)
	}
	b.log.Add(deltas...)
	b.log.Commit(b.where())
	if run {
		b.run++
	}
}

// where answers where the cursor and the marks are now.
func (b *Buffer) where() places {
	return places{cursor: b.cursor, marks: b.marks.All()}
}

// Undo takes the newest group back.
func (b *Buffer) Undo() api.Errno {
	if b == nil {
		return api.ErrNoUndo
	}
	return b.bring(b.log.Undo())
}

// Redo does the next group again.
func (b *Buffer) Redo() api.Errno {
	if b == nil {
		return api.ErrNoRedo
	}
	return b.bring(b.log.Redo())
}

// bring does what the log answers: deltas to the text, and the cursor and the marks to where they were.
func (b *Buffer) bring(deltas []api.Delta, to places, e api.Errno) api.Errno {
	if e != api.OK {
		return e
	}
	for _, d := range deltas {
		b.store.Replace(d.At, len(d.Out), d.In)
	}
	b.cursor = to.cursor
	b.marks.Load(to.marks)
	b.Rest()
	return api.OK
}
