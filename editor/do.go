package editor

import (
	"bodkin/api"
	"bodkin/change"
	"bodkin/move"
	"bodkin/unit"
)

// Do carries the command c out. Of DoAccept it answers the text as the line that is accepted.
func (e *Editor) Do(c api.Command) (line string, accepted bool, err api.Errno) {
	if e == nil {
		return "", false, api.OK
	}
	c.Count = min(max(c.Count, 1), api.MostCount)
	within, err := e.doInSearch(c)
	switch {
	case within:
	case c.Kind == api.DoAccept:
		line, accepted = e.accept(), true
	default:
		err = e.carry(c)
	}
	e.end(c, err == api.OK)
	return line, accepted, err
}

// end ends what the next command can't go on with behind c: a run, kills that are put together, a yank that may be changed, the goal.
func (e *Editor) end(c api.Command, done bool) {
	if !done || !types(c) {
		e.Rest()
	}
	if !done || !chains(c.Kind) {
		e.Stop()
	}
	if !done || !move.Motion(c.Kind) {
		e.goal = none
	}
}

// types answers whether c is a unit that is typed, and so goes on with a run.
func types(c api.Command) bool {
	u, ok := unit.At(c.Text, 0)
	return c.Kind == api.DoInsert && c.Count == 1 && ok && u.Size == len(c.Text)
}

// chains answers whether commands of the kind k leave the ring killing or yanking.
func chains(k api.CommandKind) bool {
	switch k {
	case api.DoKillWordRight, api.DoKillWordLeft, api.DoKillLineEnd, api.DoKillLineStart, api.DoKillRegion, api.DoYank, api.DoYankPop:
		return true
	}
	return false
}

// carry carries c out where there is no search and nothing is accepted.
func (e *Editor) carry(c api.Command) api.Errno {
	switch c.Kind {
	case api.DoNothing, api.DoRepaint:
		return api.OK
	case api.DoInsert:
		return e.insert(c.Text, c.Count, types(c))
	case api.DoPaste:
		return e.insert(c.Text, 1, false)
	case api.DoNewline:
		return e.insert("\n", c.Count, false)
	case api.DoYank:
		return e.yank()
	case api.DoYankPop:
		return e.changeYank()
	case api.DoSetMark:
		return e.SetMark(c.Mark, e.Buffer.Cursor())
	case api.DoGoMark:
		return e.goToMark(c.Mark)
	case api.DoExchange:
		return e.exchange()
	case api.DoUndo:
		return again(c.Count, e.Undo)
	case api.DoRedo:
		return again(c.Count, e.Redo)
	case api.DoHistoryBack:
		return e.walk(c.Count, e.Back)
	case api.DoHistoryForward:
		return e.walk(c.Count, e.Forward)
	case api.DoSearch:
		e.search = &search{}
		return api.OK
	case api.DoAbort:
		return api.ErrAbort
	case api.DoUnbound:
		return api.ErrUnbound
	}
	return e.carryByLayers(c)
}

// carryByLayers carries c out by the layer that knows its kind, if one does.
func (e *Editor) carryByLayers(c api.Command) api.Errno {
	switch {
	case move.Motion(c.Kind):
		return e.move(c)
	case change.Does(c.Kind):
		return e.change(c)
	}
	return api.ErrKind
}

// again does a thing count times, or as often as it answers OK, and answers an error only if the first time does.
func again(count int, do func() api.Errno) api.Errno {
	for n := range count {
		err := do()
		if err != api.OK && n == 0 {
			return err
		}
		if err != api.OK {
			break
		}
	}
	return api.OK
}
