package bind

import (
	"bodkin/api"
)

// bound is a row of the table of single keys: a key that its Char tells from others of its kind.
type bound struct {
	kind api.KeyKind
	meta bool
	char rune
	do   api.CommandKind
}

var bounds = [...]bound{
	{api.KeyCtrl, false, '@', api.DoSetMark},
	{api.KeyCtrl, false, 'A', api.DoLineStart},
	{api.KeyCtrl, false, 'E', api.DoLineEnd},
	{api.KeyCtrl, false, 'B', api.DoLeft},
	{api.KeyCtrl, false, 'F', api.DoRight},
	{api.KeyCtrl, false, 'P', api.DoUp},
	{api.KeyCtrl, false, 'N', api.DoDown},
	{api.KeyCtrl, false, 'D', api.DoDeleteRight},
	{api.KeyCtrl, false, 'H', api.DoDeleteLeft},
	{api.KeyCtrl, false, '?', api.DoDeleteLeft},
	{api.KeyCtrl, false, 'G', api.DoAbort},
	{api.KeyCtrl, false, 'I', api.DoInsert},
	{api.KeyCtrl, false, 'J', api.DoNewline},
	{api.KeyCtrl, false, 'M', api.DoAccept},
	{api.KeyCtrl, false, 'K', api.DoKillLineEnd},
	{api.KeyCtrl, false, 'U', api.DoKillLineStart},
	{api.KeyCtrl, false, 'L', api.DoRepaint},
	{api.KeyCtrl, false, 'R', api.DoSearch},
	{api.KeyCtrl, false, 'T', api.DoTransposeChars},
	{api.KeyCtrl, false, 'W', api.DoKillRegion},
	{api.KeyCtrl, false, 'Y', api.DoYank},
	{api.KeyCtrl, false, '_', api.DoUndo},
	{api.KeyCtrl, false, '^', api.DoRedo},
	{api.KeyCtrl, true, 'H', api.DoKillWordLeft},
	{api.KeyCtrl, true, '?', api.DoKillWordLeft},
	{api.KeyChar, true, 'b', api.DoWordLeft},
	{api.KeyChar, true, 'f', api.DoWordRight},
	{api.KeyChar, true, 'd', api.DoKillWordRight},
	{api.KeyChar, true, '<', api.DoTextStart},
	{api.KeyChar, true, '>', api.DoTextEnd},
	{api.KeyChar, true, 'w', api.DoCopyRegion},
	{api.KeyChar, true, 'y', api.DoYankPop},
	{api.KeyChar, true, 't', api.DoTransposeWords},
	{api.KeyChar, true, 'u', api.DoUpperWord},
	{api.KeyChar, true, 'l', api.DoLowerWord},
	{api.KeyChar, true, 'c', api.DoCapitalWord},
	{api.KeyChar, true, 'p', api.DoHistoryBack},
	{api.KeyChar, true, 'n', api.DoHistoryForward},
}

// named is a row of the table of single keys: a named key without Ctrl and Meta, and with one of them or both.
type named struct {
	kind           api.KeyKind
	bare, modified api.CommandKind
}

var nameds = [...]named{
	{api.KeyLeft, api.DoLeft, api.DoWordLeft},
	{api.KeyRight, api.DoRight, api.DoWordRight},
	{api.KeyUp, api.DoUp, api.DoHistoryBack},
	{api.KeyDown, api.DoDown, api.DoHistoryForward},
	{api.KeyHome, api.DoLineStart, api.DoTextStart},
	{api.KeyEnd, api.DoLineEnd, api.DoTextEnd},
	{api.KeyDelete, api.DoDeleteRight, api.DoKillWordRight},
	{api.KeyPageUp, api.DoHistoryBack, api.DoUnbound},
	{api.KeyPageDown, api.DoHistoryForward, api.DoUnbound},
}

// prefix is a row of the table of prefixes, with the name that Prefix tells.
type prefix struct {
	kind api.KeyKind
	meta bool
	char rune
	name string
}

// The prefixes' names.
const (
	quote    = "q"
	extended = "x"
	setMark  = "m"
	goMark   = "'"
)

var prefixes = [...]prefix{
	{api.KeyCtrl, false, 'Q', quote},
	{api.KeyCtrl, false, 'X', extended},
	{api.KeyChar, true, 'm', setMark},
	{api.KeyChar, true, '\'', goMark},
}

// extendeds has the keys behind C-x.
var extendeds = [...]bound{
	{api.KeyCtrl, false, 'X', api.DoExchange},
	{api.KeyChar, false, 'u', api.DoUndo},
	{api.KeyChar, false, 'r', api.DoRedo},
}

// prefixOf answers the name of the prefix that k is, or nothing.
func prefixOf(k api.Key) string {
	for _, row := range prefixes {
		if is(k, row.kind, row.meta, row.char) {
			return row.name
		}
	}
	return ""
}

// single answers the kind of the command that k makes without a prefix.
func single(k api.Key) api.CommandKind {
	if k.Kind == api.KeyPaste {
		return api.DoPaste
	}
	if typed(k) {
		return api.DoInsert
	}
	for _, row := range bounds {
		if is(k, row.kind, row.meta, row.char) {
			return row.do
		}
	}
	return singleNamed(k)
}

// singleNamed answers the kind of the command that k makes if it is a named key.
func singleNamed(k api.Key) api.CommandKind {
	for _, row := range nameds {
		if row.kind != k.Kind {
			continue
		}
		if k.Ctrl || k.Meta {
			return row.modified
		}
		return row.bare
	}
	return api.DoUnbound
}

// behind answers the kind of the command that k makes behind the prefix of that name.
func behind(name string, k api.Key) api.CommandKind {
	switch {
	case name == quote && quotable(k):
		return api.DoInsert
	case name == quote:
		return api.DoUnbound
	case is(k, api.KeyCtrl, false, 'G'):
		return api.DoAbort
	case name == setMark && markName(k):
		return api.DoSetMark
	case name == goMark && markName(k):
		return api.DoGoMark
	case name == extended:
		return behindExtended(k)
	}
	return api.DoUnbound
}

// behindExtended answers the kind of the command that k makes behind C-x.
func behindExtended(k api.Key) api.CommandKind {
	for _, row := range extendeds {
		if is(k, row.kind, row.meta, row.char) {
			return row.do
		}
	}
	return api.DoUnbound
}
