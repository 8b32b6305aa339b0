package keys

import (
	"strconv"
	"strings"

	"bodkin/api"
	"bodkin/unit"
)

// Bytes answers the bytes that make just the key k, and whether there are such.
func Bytes(k api.Key) (string, bool) {
	text := bytesTried(k)
	if made := Decode(text); len(made) != 1 || made[0] != k {
		return "", false
	}
	return text, true
}

// Name answers a text for people.
func Name(k api.Key) string {
	name, ok := bareName(k)
	if !ok {
		return ""
	}
	if k.Shift {
		name = "S-" + name
	}
	if k.Meta {
		name = "M-" + name
	}
	if k.Ctrl {
		name = "C-" + name
	}
	return name
}

// bytesTried answers the bytes that make k, if any do.
func bytesTried(k api.Key) string {
	switch k.Kind {
	case api.KeyChar:
		return withMeta(k, unit.Encode(k.Char))
	case api.KeyCtrl:
		return withMeta(k, controlByte(k.Char))
	case api.KeyBad:
		return withMeta(k, strings.Clone(k.Text))
	case api.KeyEsc:
		return "\x1b"
	case api.KeyUnknown:
		return strings.Clone(k.Text)
	case api.KeyPaste:
		return pasteBegin + k.Text + pasteEnd
	}
	return sequenceOf(k)
}

// withMeta answers the bytes, behind an ESC if k has Meta.
func withMeta(k api.Key, text string) string {
	if k.Meta {
		return "\x1b" + text
	}
	return text
}

// controlByte answers the byte that char names as a control key, or nothing.
func controlByte(char rune) string {
	if char < '?' || char > '_' {
		return ""
	}
	return string(char ^ 64)
}

// bareName answers the name of k without its modifiers, and whether its kind is one.
func bareName(k api.Key) (string, bool) {
	switch k.Kind {
	case api.KeyChar, api.KeyCtrl:
		return unit.Encode(k.Char), true
	case api.KeyF:
		return "F" + strconv.Itoa(int(k.Char)), true
	}
	for _, row := range names {
		if row.kind == k.Kind {
			return row.name, true
		}
	}
	return "", false
}

// named is a row of the table of names.
type named struct {
	kind api.KeyKind
	name string
}

// names has the kinds whose name hangs on nothing else.
var names = [...]named{
	{api.KeyEsc, "Esc"},
	{api.KeyBad, "Bad"},
	{api.KeyUp, "Up"},
	{api.KeyDown, "Down"},
	{api.KeyRight, "Right"},
	{api.KeyLeft, "Left"},
	{api.KeyHome, "Home"},
	{api.KeyEnd, "End"},
	{api.KeyInsert, "Insert"},
	{api.KeyDelete, "Delete"},
	{api.KeyPageUp, "PageUp"},
	{api.KeyPageDown, "PageDown"},
	{api.KeyTab, "Tab"},
	{api.KeyPaste, "Paste"},
	{api.KeyUnknown, "Unknown"},
}
