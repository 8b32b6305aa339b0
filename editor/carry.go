package editor

import (
	"strings"

	"bodkin/api"
	"bodkin/change"
	"bodkin/move"
)

// region is the name of the mark at which the region begins or ends.
const region = '@'

// tooLong answers whether text, so many times, has more than most bytes.
func tooLong(text string, count, most int) bool {
	return len(text) > most/count
}

// insert puts text at the cursor, count times.
func (e *Editor) insert(text string, count int, run bool) api.Errno {
	// The buffer would refuse it just so, but the text would have to be made first.
	if tooLong(text, count, e.Store().Limit()-e.Buffer.Len()) {
		return api.ErrFull
	}
	return e.replace(e.Buffer.Cursor(), 0, strings.Repeat(text, count), run)
}

// replace puts text in the place of the cut bytes from at on, with the cursor behind it.
func (e *Editor) replace(at, cut int, text string, run bool) api.Errno {
	return e.Buffer.Do([]api.Edit{{At: at, Cut: cut, Put: text}}, at+len(text), run)
}

// accept makes the text a line of the history, and answers it.
func (e *Editor) accept() string {
	line := e.Buffer.Text()
	e.Add(line)
	e.Reset("")
	return line
}

// move brings the cursor where the motion c leads.
func (e *Editor) move(c api.Command) api.Errno {
	to, next, err := move.Go(e.Store(), c.Kind, e.Buffer.Cursor(), e.goal, c.Count)
	if err != api.OK {
		return err
	}
	e.goal = next
	return e.Buffer.Go(to)
}

// change does what layer 17 makes of c, and hands on what it kills.
func (e *Editor) change(c api.Command) api.Errno {
	made, err := change.Of(c, e.Buffer.Text(), e.Buffer.Cursor(), e.region())
	if err != api.OK {
		return err
	}
	if c.Kind == api.DoCopyRegion {
		e.Copy(made.Kill)
		return api.OK
	}
	err = e.Buffer.Do([]api.Edit{made.Edit}, made.Cursor, false)
	if err == api.OK {
		// Of what isn't a kill this is empty, which the ring passes over.
		e.Kill(made.Kill, made.Ahead)
	}
	return err
}

// region answers where the region's mark is, or none.
func (e *Editor) region() int {
	at, err := e.Mark(region)
	if err != api.OK {
		return none
	}
	return at
}

// yank puts at the cursor what was killed last.
func (e *Editor) yank() api.Errno {
	text, err := e.Yank()
	if err != api.OK {
		return err
	}
	e.yanked = e.Buffer.Cursor()
	return e.replace(e.yanked, 0, text, false)
}

// changeYank puts what was killed before in the place of what was yanked.
func (e *Editor) changeYank() api.Errno {
	old, text, err := e.Pop()
	if err != api.OK {
		return err
	}
	return e.replace(e.yanked, len(old), text, false)
}

// goToMark brings the cursor to the mark name.
func (e *Editor) goToMark(name byte) api.Errno {
	at, err := e.Mark(name)
	if err != api.OK {
		return err
	}
	return e.Buffer.Go(at)
}

// exchange changes the cursor and the region's mark about.
func (e *Editor) exchange() api.Errno {
	at, err := e.Mark(region)
	if err != api.OK {
		return err
	}
	e.SetMark(region, e.Buffer.Cursor())
	return e.Buffer.Go(at)
}

// walk takes steps through the history, and brings the text at which they end to the buffer.
func (e *Editor) walk(count int, step func(now string) (string, api.Errno)) api.Errno {
	text := e.Buffer.Text()
	err := again(count, func() api.Errno {
		next, err := step(text)
		if err == api.OK {
			text = next
		}
		return err
	})
	if err != api.OK {
		return err
	}
	return e.Reset(text)
}
