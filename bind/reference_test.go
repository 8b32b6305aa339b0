package bind_test

import (
	"math/big"
	"strings"
	"unicode/utf8"

	"bodkin/api"
)

// This file reads a whole list of keys at once by the chapter's own words, keys written as they are there: the other tests hold the package against it.

func char(c rune) api.Key { return api.Key{Kind: api.KeyChar, Char: c} }

func ctrl(c rune) api.Key { return api.Key{Kind: api.KeyCtrl, Char: c, Ctrl: true} }

func bad(text string) api.Key { return api.Key{Kind: api.KeyBad, Text: text} }

func paste(text string) api.Key { return api.Key{Kind: api.KeyPaste, Text: text} }

func named(kind api.KeyKind) api.Key { return api.Key{Kind: kind} }

func meta(k api.Key) api.Key {
	k.Meta = true
	return k
}

func withCtrl(k api.Key) api.Key {
	k.Ctrl = true
	return k
}

func do(kind api.CommandKind) api.Command { return api.Command{Kind: kind, Count: 1} }

func insert(text string) api.Command {
	return api.Command{Kind: api.DoInsert, Count: 1, Text: text}
}

func mark(kind api.CommandKind, name byte) api.Command {
	return api.Command{Kind: kind, Count: 1, Mark: name}
}

func times(n int, c api.Command) api.Command {
	c.Count = n
	return c
}

// rows is the chapter's table of single keys, but for those that stand for a text of their own. A named key with Ctrl or Meta or both has a + behind it.
var rows = map[string]api.Command{
	"C-@": mark(api.DoSetMark, '@'),
	"C-a": do(api.DoLineStart), "C-e": do(api.DoLineEnd),
	"C-b": do(api.DoLeft), "C-f": do(api.DoRight),
	"C-p": do(api.DoUp), "C-n": do(api.DoDown),
	"C-d": do(api.DoDeleteRight), "C-h": do(api.DoDeleteLeft), "C-?": do(api.DoDeleteLeft),
	"C-g": do(api.DoAbort),
	"C-i": insert("\t"),
	"C-j": do(api.DoNewline), "C-m": do(api.DoAccept),
	"C-k": do(api.DoKillLineEnd), "C-u": do(api.DoKillLineStart),
	"C-l": do(api.DoRepaint),
	"C-r": do(api.DoSearch),
	"C-t": do(api.DoTransposeChars),
	"C-w": do(api.DoKillRegion), "C-y": do(api.DoYank),
	"C-_": do(api.DoUndo), "C-^": do(api.DoRedo),
	`Meta "b"`: do(api.DoWordLeft), `Meta "f"`: do(api.DoWordRight),
	`Meta "d"`: do(api.DoKillWordRight), "Meta C-h": do(api.DoKillWordLeft), "Meta C-?": do(api.DoKillWordLeft),
	`Meta "<"`: do(api.DoTextStart), `Meta ">"`: do(api.DoTextEnd),
	`Meta "w"`: do(api.DoCopyRegion), `Meta "y"`: do(api.DoYankPop),
	`Meta "t"`: do(api.DoTransposeWords),
	`Meta "u"`: do(api.DoUpperWord), `Meta "l"`: do(api.DoLowerWord), `Meta "c"`: do(api.DoCapitalWord),
	`Meta "p"`: do(api.DoHistoryBack), `Meta "n"`: do(api.DoHistoryForward),
	"KeyLeft": do(api.DoLeft), "KeyRight": do(api.DoRight), "KeyUp": do(api.DoUp), "KeyDown": do(api.DoDown),
	"KeyLeft+": do(api.DoWordLeft), "KeyRight+": do(api.DoWordRight),
	"KeyUp+": do(api.DoHistoryBack), "KeyDown+": do(api.DoHistoryForward),
	"KeyHome": do(api.DoLineStart), "KeyEnd": do(api.DoLineEnd),
	"KeyHome+": do(api.DoTextStart), "KeyEnd+": do(api.DoTextEnd),
	"KeyDelete":  do(api.DoDeleteRight),
	"KeyDelete+": do(api.DoKillWordRight),
	"KeyPageUp":  do(api.DoHistoryBack), "KeyPageDown": do(api.DoHistoryForward),
}

// prefixNames has the prefixes, and what Prefix tells of each.
var prefixNames = map[string]string{"C-q": "q", "C-x": "x", `Meta "m"`: "m", `Meta "'"`: "'"}

var keyNames = map[api.KeyKind]string{
	api.KeyUp: "KeyUp", api.KeyDown: "KeyDown", api.KeyRight: "KeyRight", api.KeyLeft: "KeyLeft", api.KeyHome: "KeyHome", api.KeyEnd: "KeyEnd",
	api.KeyInsert: "KeyInsert", api.KeyDelete: "KeyDelete", api.KeyPageUp: "KeyPageUp", api.KeyPageDown: "KeyPageDown", api.KeyTab: "KeyTab",
}

// written answers k as the chapter writes it, or nothing if the chapter has no way to write it.
func written(k api.Key) string {
	ahead := ""
	if k.Meta {
		ahead = "Meta "
	}
	switch {
	case k.Kind == api.KeyCtrl && (k.Char == '?' || k.Char >= '@' && k.Char <= '_'):
		return ahead + "C-" + strings.ToLower(string(k.Char))
	case k.Kind == api.KeyChar && !k.Ctrl && utf8.ValidRune(k.Char):
		return ahead + `"` + string(k.Char) + `"`
	case keyNames[k.Kind] != "" && (k.Ctrl || k.Meta):
		return keyNames[k.Kind] + "+"
	}
	return keyNames[k.Kind]
}

// plainSingle answers the command of a key that is no prefix and no digit of a count.
func plainSingle(k api.Key) api.Command {
	switch {
	case k.Kind == api.KeyPaste:
		return api.Command{Kind: api.DoPaste, Count: 1, Text: k.Text}
	case k.Kind == api.KeyChar && !k.Ctrl && !k.Meta && utf8.ValidRune(k.Char):
		return insert(string(k.Char))
	case k.Kind == api.KeyBad && !k.Ctrl && !k.Meta && k.Text != "":
		return insert(k.Text)
	}
	if c, ok := rows[written(k)]; ok {
		return c
	}
	return do(api.DoUnbound)
}

// plainBehind answers the command of the key behind a prefix.
func plainBehind(prefix string, k api.Key) api.Command {
	name := written(k)
	letter := k.Kind == api.KeyChar && !k.Ctrl && !k.Meta && strings.ContainsRune("abcdefghijklmnopqrstuvwxyz@", k.Char)
	switch {
	case prefix == "q":
		return plainQuoted(k)
	case name == "C-g":
		return do(api.DoAbort)
	case prefix == "x" && name == "C-x":
		return do(api.DoExchange)
	case prefix == "x" && name == `"u"`:
		return do(api.DoUndo)
	case prefix == "x" && name == `"r"`:
		return do(api.DoRedo)
	case prefix == "m" && letter:
		return mark(api.DoSetMark, byte(k.Char))
	case prefix == "'" && letter:
		return mark(api.DoGoMark, byte(k.Char))
	}
	return do(api.DoUnbound)
}

// plainQuoted answers the command of the key behind C-q.
func plainQuoted(k api.Key) api.Command {
	switch {
	case k.Meta:
	case k.Kind == api.KeyEsc:
		return insert("\x1b")
	case k.Kind == api.KeyCtrl && k.Char == '?':
		return insert("\x7f")
	case k.Kind == api.KeyCtrl && k.Char >= 64 && k.Char <= 95:
		return insert(string([]byte{byte(k.Char) - 64}))
	case k.Kind == api.KeyChar && !k.Ctrl, k.Kind == api.KeyBad && !k.Ctrl:
		return plainSingle(k)
	}
	return do(api.DoUnbound)
}

// waiting is what Prefix and Count tell.
type waiting struct {
	prefix  string
	count   int
	counted bool
}

// nothing is what they tell where nothing waits.
var nothing = waiting{count: 1}

func isDigit(k api.Key) bool {
	return k.Kind == api.KeyChar && !k.Ctrl && k.Char >= '0' && k.Char <= '9'
}

// plainCount answers the count that the digits tell.
func plainCount(digits []api.Key) int {
	var text strings.Builder
	for _, k := range digits {
		text.WriteRune(k.Char)
	}
	n, _ := new(big.Int).SetString(text.String(), 10)
	if n.Cmp(big.NewInt(1000)) > 0 {
		return 1000
	}
	return max(int(n.Int64()), 1)
}

// plainOne answers the command at the beginning of the list and the number of its keys; or, with the number 0, what waits as the list ends ahead of a command.
func plainOne(list []api.Key) (c api.Command, size int, w waiting) {
	w = nothing
	if len(list) > 0 && isDigit(list[0]) && list[0].Meta {
		for size < len(list) && isDigit(list[size]) {
			size++
		}
		w.count, w.counted = plainCount(list[:size]), true
	}
	if size == len(list) {
		return api.Command{}, 0, w
	}
	w.prefix = prefixNames[written(list[size])]
	if w.prefix == "" {
		c = plainSingle(list[size])
	} else {
		size++
		if size == len(list) {
			return api.Command{}, 0, w
		}
		c = plainBehind(w.prefix, list[size])
	}
	if c.Kind != api.DoAbort {
		c.Count = w.count
	}
	return c, size + 1, nothing
}

// plainly answers the commands of the list, and what waits behind its last key.
func plainly(list []api.Key) ([]api.Command, waiting) {
	var made []api.Command
	for {
		c, size, w := plainOne(list)
		if size == 0 {
			return made, w
		}
		made = append(made, c)
		list = list[size:]
	}
}
