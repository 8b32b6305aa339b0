package bind

import (
	"strings"

	"bodkin/api"
	"bodkin/unit"
)

// is answers whether k is the key of that kind and Char, with Meta or without.
func is(k api.Key, kind api.KeyKind, meta bool, char rune) bool {
	// A control key's Ctrl only says its kind again, and is passed over.
	return k.Kind == kind && k.Meta == meta && k.Char == char && (kind == api.KeyCtrl || !k.Ctrl)
}

// typed answers whether k stands for its own bytes without a prefix.
func typed(k api.Key) bool {
	if k.Kind != api.KeyChar && k.Kind != api.KeyBad {
		return false
	}
	return !k.Ctrl && !k.Meta && ownBytes(k) != ""
}

// quotable answers whether k stands for its own bytes behind C-q.
func quotable(k api.Key) bool {
	if k.Kind != api.KeyCtrl && k.Kind != api.KeyEsc {
		return typed(k)
	}
	return !k.Meta && ownBytes(k) != ""
}

// markName answers whether k is a character that names a mark.
func markName(k api.Key) bool {
	return k.Kind == api.KeyChar && !k.Ctrl && !k.Meta && (k.Char == '@' || k.Char >= 'a' && k.Char <= 'z')
}

// digit answers whether k can be a digit of a count; Meta is for the binder to ask.
func digit(k api.Key) bool {
	return k.Kind == api.KeyChar && !k.Ctrl && k.Char >= '0' && k.Char <= '9'
}

// command answers the command of that kind, once; the text or the mark that it may need is the key's own.
func command(kind api.CommandKind, k api.Key) api.Command {
	c := api.Command{Kind: kind, Count: 1}
	switch kind {
	case api.DoInsert, api.DoPaste:
		c.Text = ownBytes(k)
	case api.DoSetMark, api.DoGoMark:
		c.Mark = byte(k.Char)
	}
	return c
}

// ownBytes answers the bytes that k stands for, or nothing.
func ownBytes(k api.Key) string {
	switch k.Kind {
	case api.KeyChar:
		return unit.Encode(k.Char)
	case api.KeyBad, api.KeyPaste:
		return strings.Clone(k.Text)
	case api.KeyCtrl:
		return controlByte(k.Char)
	case api.KeyEsc:
		return "\x1b"
	}
	return ""
}

// controlByte answers the byte that char names as a control key, or nothing.
func controlByte(char rune) string {
	switch {
	case char == '?':
		return "\x7f"
	case char >= '@' && char <= '_':
		return unit.Encode(char - '@')
	}
	return ""
}
