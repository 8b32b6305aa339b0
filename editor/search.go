package editor

import (
	"strings"

	"bodkin/api"
	"bodkin/cluster"
)

// search is a search through the history. Only of an empty part there is no hit, as no other is taken that isn't found.
type search struct {
	part string
	// number is the entry that is hit.
	number int
	// cursor is where part begins in the entry, or the next boundary.
	cursor int
}

// hits answers whether there is a search with a hit.
func (s *search) hits() bool {
	return s != nil && s.part != ""
}

// doInSearch carries c out within the search, if there is one that goes on with c or is given up by it, and answers whether that was so. By any other command the search ends and is kept.
func (e *Editor) doInSearch(c api.Command) (within bool, err api.Errno) {
	if e.search == nil {
		return false, api.OK
	}
	switch c.Kind {
	case api.DoNothing, api.DoRepaint:
	case api.DoInsert:
		err = e.lengthen(c.Text, c.Count)
	case api.DoPaste:
		err = e.lengthen(c.Text, 1)
	case api.DoDeleteLeft:
		err = e.shorten()
	case api.DoSearch:
		// Of an empty part nothing is found.
		err = e.find(e.search.part, e.search.number)
	case api.DoAbort:
		e.search = nil
	default:
		e.keepSearch()
		return false, api.OK
	}
	return true, err
}

// find makes the search one for part, with the newest entry below the number below as its hit that has part in it.
func (e *Editor) find(part string, below int) api.Errno {
	number, at, err := e.Find(part, below)
	if err != api.OK {
		return err
	}
	entry, _ := e.Entry(number)
	// A copy, as the part may be the very text that was handed in.
	e.search = &search{part: strings.Clone(part), number: number, cursor: cluster.Snap(entry, at)}
	return api.OK
}

// lengthen lays text behind the part, count times.
func (e *Editor) lengthen(text string, count int) api.Errno {
	if tooLong(text, count, api.MostBytes) {
		return api.ErrFull
	}
	part := e.search.part
	// No entry is longer than the text may be, so such a part needn't be made.
	if tooLong(text, count, e.Store().Limit()-len(part)) {
		return api.ErrNotFound
	}
	part += strings.Repeat(text, count)
	if part == "" {
		return api.OK
	}
	below := e.History.Len()
	if e.search.hits() {
		below = e.search.number + 1
	}
	return e.find(part, below)
}

// shorten takes the last cluster off the part.
func (e *Editor) shorten() api.Errno {
	part := e.search.part
	if part == "" {
		return api.ErrEdge
	}
	part = part[:cluster.Prev(part, len(part))]
	if part == "" {
		e.search = &search{}
		return api.OK
	}
	return e.find(part, e.History.Len())
}

// keepSearch ends the search, and brings the entry that it has hit to the buffer.
func (e *Editor) keepSearch() {
	s := e.search
	e.search = nil
	if !s.hits() {
		return
	}
	// What the history's Go answers may be a draft of the entry.
	entry, _ := e.Entry(s.number)
	e.History.Go(s.number, e.Buffer.Text())
	e.Reset(entry)
	e.Buffer.Go(s.cursor)
}
