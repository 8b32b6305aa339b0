package keys_test

import (
	"regexp"
	"strconv"
	"strings"
	"unicode/utf8"

	"bodkin/api"
)

// This file reads a whole text at once by the chapter's own words, without states: the other tests hold the package against it.

// told is a key, and the bytes of which it was made.
type told struct {
	key   api.Key
	bytes string
}

func char(c rune) api.Key { return api.Key{Kind: api.KeyChar, Char: c} }

func ctrl(c rune) api.Key { return api.Key{Kind: api.KeyCtrl, Char: c, Ctrl: true} }

func bad(text string) api.Key { return api.Key{Kind: api.KeyBad, Text: text} }

func paste(text string) api.Key { return api.Key{Kind: api.KeyPaste, Text: text} }

func unknown(text string) api.Key { return api.Key{Kind: api.KeyUnknown, Text: text} }

func function(n rune) api.Key { return api.Key{Kind: api.KeyF, Char: n} }

func named(kind api.KeyKind) api.Key { return api.Key{Kind: kind} }

func meta(k api.Key) api.Key {
	k.Meta = true
	return k
}

// plainly answers the keys that are whole in s, and what is held back.
func plainly(s string) (list []told, held string) {
	for s != "" {
		key, size := plainKey(s)
		if size == 0 {
			return list, s
		}
		list = append(list, told{key, s[:size]})
		s = s[size:]
	}
	return list, ""
}

// plainKey answers the key at the beginning of s and its bytes' number, which is 0 if it can't be told yet.
func plainKey(s string) (api.Key, int) {
	switch {
	case s[0] != 0x1B:
		return plainOrdinary(s)
	case len(s) == 1:
		return api.Key{}, 0
	case s[1] == 0x1B:
		return named(api.KeyEsc), 1
	case s[1] == '[':
		return plainCSI(s)
	case s[1] == 'O':
		return plainSS3(s)
	}
	key, size := plainOrdinary(s[1:])
	if size == 0 {
		return api.Key{}, 0
	}
	return meta(key), 1 + size
}

func plainOrdinary(s string) (api.Key, int) {
	if s[0] < 0x20 {
		return ctrl(rune(s[0]) + 64), 1
	}
	if s[0] == 0x7F {
		return ctrl('?'), 1
	}
	if !utf8.FullRuneInString(s) {
		return api.Key{}, 0
	}
	c, size := utf8.DecodeRuneInString(s)
	if c == utf8.RuneError && size == 1 {
		return bad(s[:1]), 1
	}
	return char(c), size
}

func plainCSI(s string) (api.Key, int) {
	size := 2
	for size < len(s) && s[size] >= 0x20 && s[size] <= 0x3F {
		size++
		if size == 32 {
			return unknown(s[:32]), 32
		}
	}
	switch {
	case size == len(s):
		return api.Key{}, 0
	case s[size] >= 0x40 && s[size] <= 0x7E:
		return plainMeaning(s, size+1)
	case size == 2:
		return meta(char('[')), 2
	}
	return unknown(s[:size]), size
}

// plainForm is a sequence's form.
var plainForm = regexp.MustCompile(`^\x1b\[(([0-9]{1,3})(;([0-9]{1,3}))?)?(.)$`)

// plainMeaning answers what the whole CSI sequence of that size at the beginning of s means.
func plainMeaning(s string, size int) (api.Key, int) {
	if s[:size] == "\x1b[200~" {
		text, _, ended := strings.Cut(s[size:], "\x1b[201~")
		if !ended {
			return api.Key{}, 0
		}
		return paste(text), size + len(text) + 6
	}
	parts := plainForm.FindStringSubmatch(s[:size])
	if parts == nil {
		return unknown(s[:size]), size
	}
	n, m := "1", 1
	if parts[2] != "" {
		n = strings.TrimLeft(parts[2], "0")
	}
	if parts[4] != "" {
		m, _ = strconv.Atoi(parts[4])
	}
	key, ok := plainTable[n+parts[5]]
	if !ok || m < 1 || m > 8 {
		return unknown(s[:size]), size
	}
	key.Shift = m%2 == 0 || key.Kind == api.KeyTab
	key.Meta = m == 3 || m == 4 || m == 7 || m == 8
	key.Ctrl = m > 4
	return key, size
}

// plainTable has the keys by their number and end.
var plainTable = map[string]api.Key{
	"1A": named(api.KeyUp), "1B": named(api.KeyDown), "1C": named(api.KeyRight), "1D": named(api.KeyLeft),
	"1H": named(api.KeyHome), "1F": named(api.KeyEnd), "1Z": named(api.KeyTab),
	"1P": function(1), "1Q": function(2), "1R": function(3), "1S": function(4),
	"1~": named(api.KeyHome), "7~": named(api.KeyHome), "2~": named(api.KeyInsert), "3~": named(api.KeyDelete),
	"4~": named(api.KeyEnd), "8~": named(api.KeyEnd), "5~": named(api.KeyPageUp), "6~": named(api.KeyPageDown),
	"11~": function(1), "12~": function(2), "13~": function(3), "14~": function(4), "15~": function(5),
	"17~": function(6), "18~": function(7), "19~": function(8), "20~": function(9), "21~": function(10),
	"23~": function(11), "24~": function(12),
}

func plainSS3(s string) (api.Key, int) {
	if len(s) == 2 {
		return api.Key{}, 0
	}
	if s[2] < 0x40 || s[2] > 0x7E {
		return meta(char('O')), 2
	}
	if strings.IndexByte("ABCDHFPQRS", s[2]) < 0 {
		return unknown(s[:3]), 3
	}
	return plainTable["1"+s[2:3]], 3
}

// plainRest answers the keys for what is held back if nothing more comes.
func plainRest(held string) []told {
	switch {
	case held == "":
		return nil
	case held == "\x1b":
		return []told{{named(api.KeyEsc), held}}
	case held == "\x1b[", held == "\x1bO":
		return []told{{meta(char(rune(held[1]))), held}}
	case strings.HasPrefix(held, "\x1b[200~"):
		return []told{{paste(held[6:]), held}}
	case strings.HasPrefix(held, "\x1b["):
		return []told{{unknown(held), held}}
	case held[0] == 0x1B:
		list := plainRest(held[1:])
		list[0] = told{meta(list[0].key), held[:2]}
		return list
	}
	var list []told
	for i := range len(held) {
		list = append(list, told{bad(held[i : i+1]), held[i : i+1]})
	}
	return list
}

// plainAll answers the keys of s if nothing more comes.
func plainAll(s string) []told {
	list, held := plainly(s)
	return append(list, plainRest(held)...)
}

// keysOf answers the keys alone.
func keysOf(list []told) []api.Key {
	var out []api.Key
	for _, x := range list {
		out = append(out, x.key)
	}
	return out
}

// bytesOf answers the keys' bytes alone.
func bytesOf(list []told) []string {
	var out []string
	for _, x := range list {
		out = append(out, x.bytes)
	}
	return out
}

// plainBytes answers what the chapter says of Bytes.
func plainBytes(k api.Key) (string, bool) {
	text := plainWritten(k)
	if list := plainAll(text); len(list) != 1 || list[0].key != k {
		return "", false
	}
	return text, true
}

func plainWritten(k api.Key) string {
	ahead := ""
	if k.Meta {
		ahead = "\x1b"
	}
	switch k.Kind {
	case api.KeyChar:
		if !utf8.ValidRune(k.Char) {
			return ahead
		}
		return ahead + string(k.Char)
	case api.KeyCtrl:
		for b := range 0x20 {
			if rune(b)+64 == k.Char {
				return ahead + string([]byte{byte(b)})
			}
		}
		if k.Char == '?' {
			return ahead + "\x7f"
		}
		return ""
	case api.KeyBad:
		return ahead + k.Text
	case api.KeyEsc:
		return "\x1b"
	case api.KeyUnknown:
		return k.Text
	case api.KeyPaste:
		return "\x1b[200~" + k.Text + "\x1b[201~"
	}
	return plainSequence(k)
}

// plainSequence tries all sequences that a key with a name may have.
func plainSequence(k api.Key) string {
	m := 1
	for n, on := range map[int]bool{1: k.Shift, 2: k.Meta, 4: k.Ctrl} {
		if on {
			m += n
		}
	}
	means := func(text string) bool {
		key, ok := plainTable[text]
		return ok && key.Kind == k.Kind && key.Char == k.Char
	}
	for _, end := range "ABCDHFPQRSZ" {
		if !means("1" + string(end)) {
			continue
		}
		if k.Kind == api.KeyTab && m == 2 || k.Kind != api.KeyTab && m == 1 {
			return "\x1b[" + string(end)
		}
		return "\x1b[1;" + strconv.Itoa(m) + string(end)
	}
	for n := range 1000 {
		if !means(strconv.Itoa(n) + "~") {
			continue
		}
		if m == 1 {
			return "\x1b[" + strconv.Itoa(n) + "~"
		}
		return "\x1b[" + strconv.Itoa(n) + ";" + strconv.Itoa(m) + "~"
	}
	return ""
}
