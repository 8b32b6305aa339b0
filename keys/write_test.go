package keys_test

import (
	"math"
	"strconv"
	"testing"

	"bodkin/api"
	"bodkin/keys"
)

func wantBytes(t *testing.T, k api.Key, want string) {
	t.Helper()
	if got, ok := keys.Bytes(k); got != want || !ok {
		t.Errorf("P18.5: Bytes(%+v): %q, %v, want %q", k, got, ok, want)
	}
	if got := keys.Decode(want); len(got) != 1 || got[0] != k {
		t.Errorf("P18.5: Decode(%q): %v, want %v", want, got, k)
	}
}

func wantNoBytes(t *testing.T, k api.Key) {
	t.Helper()
	if got, ok := keys.Bytes(k); got != "" || ok {
		t.Errorf("P18.5: Bytes(%+v): %q, %v, want none", k, got, ok)
	}
}

func wantName(t *testing.T, k api.Key, want string) {
	t.Helper()
	if got := keys.Name(k); got != want {
		t.Errorf("P18.6: Name(%+v): %q, want %q", k, got, want)
	}
}

// withModifiers answers k with each choice of modifiers, in the order of their numbers from 1 to 8.
func withModifiers(k api.Key) []api.Key {
	var list []api.Key
	for m := 1; m <= 8; m++ {
		k.Shift = false
		list = append(list, modified(k, m))
	}
	return list
}

// wantBytesOnly has the bytes of k, and that k has none if a field that its kind doesn't use has something.
func wantBytesOnly(t *testing.T, k api.Key, want string, usesChar, usesText bool) {
	t.Helper()
	wantBytes(t, k, want)
	for _, c := range []rune{-1, 1, 'a', 0x10FFFF} {
		other := k
		if other.Char = c; !usesChar {
			wantNoBytes(t, other)
		}
	}
	for _, text := range []string{"a", "\xff", want} {
		other := k
		if other.Text = text; !usesText {
			wantNoBytes(t, other)
		}
	}
}

// TestBytesOfSequences has the keys that come as sequences, with all modifiers.
func TestBytesOfSequences(t *testing.T) {
	for end, k := range letters {
		for i, k := range withModifiers(k) {
			want := "\x1b[1;" + strconv.Itoa(i+1) + one(end)
			if i == 0 {
				want = "\x1b[" + one(end)
			}
			wantBytesOnly(t, k, want, k.Kind == api.KeyF, false)
		}
	}
	for i, k := range withModifiers(named(api.KeyTab)) {
		switch {
		case !k.Shift:
			wantNoBytes(t, k)
		case i == 1:
			wantBytesOnly(t, k, "\x1b[Z", false, false)
		default:
			wantBytesOnly(t, k, "\x1b[1;"+strconv.Itoa(i+1)+"Z", false, false)
		}
	}
	for _, n := range []int{2, 3, 5, 6, 15, 17, 18, 19, 20, 21, 23, 24} {
		for i, k := range withModifiers(numbered[n]) {
			want := "\x1b[" + strconv.Itoa(n) + ";" + strconv.Itoa(i+1) + "~"
			if i == 0 {
				want = "\x1b[" + strconv.Itoa(n) + "~"
			}
			wantBytesOnly(t, k, want, k.Kind == api.KeyF, false)
		}
	}
	for _, c := range []rune{math.MinInt32, -1, 0, 13, 14, 99, 256 + 1, 1 << 16, math.MaxInt32} {
		for _, k := range withModifiers(function(c)) {
			wantNoBytes(t, k)
		}
	}
}

// TestBytesOfOrdinary has characters, controls, bad bytes and ESC, with all modifiers.
func TestBytesOfOrdinary(t *testing.T) {
	ordinary := func(k api.Key, text string, usesChar, usesText bool) {
		t.Helper()
		for _, k := range withModifiers(k) {
			switch {
			case k.Shift || k.Ctrl != (k.Kind == api.KeyCtrl):
				wantNoBytes(t, k)
			case k.Meta:
				wantBytesOnly(t, k, "\x1b"+text, usesChar, usesText)
			default:
				wantBytesOnly(t, k, text, usesChar, usesText)
			}
		}
	}
	for _, c := range []rune{' ', '!', '0', '?', '@', 'A', 'O', 'Z', '[', '\\', '_', 'a', '~', 0x80, 0x9F, 0xA0, 0xE9, 0x7FF, 0x800, 0x20AC, 0xD7FF, 0xE000, 0xFFFD, 0xFFFF, 0x10000, 0x10FFFF} {
		ordinary(char(c), string(c), true, false)
	}
	for b := range 0x20 {
		if b != 0x1B {
			ordinary(ctrl(rune(b)+64), one(b), true, false)
		}
	}
	ordinary(ctrl('?'), "\x7f", true, false)
	for b := 0x80; b <= 0xFF; b++ {
		ordinary(bad(one(b)), one(b), false, true)
	}
	wantBytesOnly(t, named(api.KeyEsc), "\x1b", false, false)
	for _, k := range withModifiers(named(api.KeyEsc))[1:] {
		wantNoBytes(t, k)
	}
}

// TestNoBytes has keys that their bytes aren't read as.
func TestNoBytes(t *testing.T) {
	var list []api.Key
	for b := range 0x20 {
		list = append(list, char(rune(b)))
	}
	for _, c := range []rune{0x7F, -1, math.MinInt32, 0xD800, 0xDFFF, 0x110000, math.MaxInt32, 'a' + 0x110000} {
		list = append(list, char(c))
	}
	for _, c := range []rune{math.MinInt32, -1, 0, 1, ' ', '0', '>', '[', '`', 'a', 'z', 0x7F, 0xBF, 64 + 256, 'A' + 256, 'A' + 1<<16, '?' + 256, math.MaxInt32} {
		list = append(list, ctrl(c), api.Key{Kind: api.KeyCtrl, Char: c})
	}
	list = append(list, api.Key{Kind: api.KeyCtrl, Char: 'A'}, api.Key{Kind: api.KeyCtrl, Char: '?'})
	for _, text := range []string{"", "a", "\x01", "\x1b", "\x7f", "\u00e9", "\xff\xff", "\xe2\x82", "\xffa", "a\xff", "\x1b\xff", "[", "O"} {
		list = append(list, bad(text))
	}
	for _, text := range []string{"", "a", "\x1b", "\x1b[", "\x1bO", "\x1b[A", "\x1bOA", "\x1b[1;5A", "\x1ba", "\x1b\xff", "\x1b\x1b", "\x1b[200~", "\x1b[200~a", "\x1b[200~a\x1b[201~", "\x1bOxx", "\x1b[2Ax", "x\x1b[2A", "\x1b[1\x1b[1", "\x1b[1\x07"} {
		list = append(list, unknown(text))
	}
	for _, text := range []string{"\x1b[201~", "a\x1b[201~", "\x1b[201~b", "a\x1b[201~b\x1b[201~", "\x1b[200~\x1b[201~"} {
		list = append(list, paste(text))
	}
	for _, k := range list {
		wantNoBytes(t, k)
		wantNoBytes(t, meta(k))
	}
}

// TestBytesOfTexts has pastes and unknown sequences.
func TestBytesOfTexts(t *testing.T) {
	for _, text := range []string{"", "a", "\x1b", "\x1b[A", "\x1b[200~", "\x1b[201", "[201~", "\x1b[201;1~", "\xff\x00\u20ac\r\n"} {
		wantBytesOnly(t, paste(text), "\x1b[200~"+text+"\x1b[201~", false, true)
		for _, k := range withModifiers(paste(text))[1:] {
			wantNoBytes(t, k)
		}
	}
	for _, text := range []string{"\x1b[1", "\x1b[?", "\x1b[1;", "\x1b[2A", "\x1b[9~", "\x1b[201~", "\x1b[200;1~", "\x1bOx", "\x1bO~", "\x1bOZ", "\x1b[111111111111111111111111111111", "\x1b[11111111111111111111111111111", "\x1b[1111111111111111111111111111A"} {
		wantBytesOnly(t, unknown(text), text, false, true)
		for _, k := range withModifiers(unknown(text))[1:] {
			wantNoBytes(t, k)
		}
	}
}

// noKinds are kinds that are none.
var noKinds = []api.KeyKind{math.MinInt, -256 + api.KeyUp, -1, 0, 19, 20, 99, 256 + api.KeyUp, 1<<32 + api.KeyUp, math.MaxInt}

// TestAllFields holds Bytes of keys of every kind, and of none, with all modifiers and with something or nothing in the other fields, against the plain answer.
func TestAllFields(t *testing.T) {
	kinds := append([]api.KeyKind{}, noKinds...)
	for kind := api.KeyChar; kind <= api.KeyUnknown; kind++ {
		kinds = append(kinds, kind)
	}
	found := 0
	for _, kind := range kinds {
		for _, c := range []rune{math.MinInt32, -1, 0, 1, 4, 5, 12, 13, '?', '@', 'A', 'O', '[', '_', 'a', 0x7F, 0x80, 0x20AC, 0xD800, 0x10FFFF, 0x110000, math.MaxInt32} {
			for _, text := range []string{"", "a", "\xff", "\xe2", "\x1b", "\x1b[", "\x1b[A", "\x1b[9~", "\x1b[1", "\x1bOx", "\x1b[201~"} {
				for _, k := range withModifiers(api.Key{Kind: kind, Char: c, Text: text}) {
					want, ok := plainBytes(k)
					if got, yes := keys.Bytes(k); got != want || yes != ok {
						t.Fatalf("P18.5: Bytes(%+v): %q, %v, want %q, %v", k, got, yes, want, ok)
					}
					if ok {
						found++
					}
				}
			}
		}
	}
	if found == 0 {
		t.Error("P18.5: no key has bytes")
	}
}

// prefixesOfNames are how the modifiers' numbers from 1 to 8 are told.
var prefixesOfNames = []string{"", "S-", "M-", "M-S-", "C-", "C-S-", "C-M-", "C-M-S-"}

// TestNames has each kind with all modifiers; the fields that its kind doesn't use are passed over.
func TestNames(t *testing.T) {
	for _, c := range []struct {
		k    api.Key
		name string
	}{
		{char('a'), "a"}, {char(' '), " "}, {char('\n'), "\n"}, {char(0x20AC), "\u20ac"}, {char(0x10FFFF), "\U0010FFFF"}, {char(0), "\x00"}, {char(-1), ""}, {char(0xD800), ""}, {char(0x110000), ""}, {char(math.MinInt32), ""},
		{api.Key{Kind: api.KeyCtrl, Char: 'A'}, "A"}, {api.Key{Kind: api.KeyCtrl, Char: '?'}, "?"}, {api.Key{Kind: api.KeyCtrl, Char: 0xE9}, "\u00e9"}, {api.Key{Kind: api.KeyCtrl, Char: -5}, ""},
		{named(api.KeyEsc), "Esc"}, {bad("\xff"), "Bad"}, {bad("more"), "Bad"}, {named(api.KeyUp), "Up"}, {named(api.KeyDown), "Down"}, {named(api.KeyRight), "Right"}, {named(api.KeyLeft), "Left"},
		{named(api.KeyHome), "Home"}, {named(api.KeyEnd), "End"}, {named(api.KeyInsert), "Insert"}, {named(api.KeyDelete), "Delete"}, {named(api.KeyPageUp), "PageUp"}, {named(api.KeyPageDown), "PageDown"}, {named(api.KeyTab), "Tab"},
		{function(1), "F1"}, {function(9), "F9"}, {function(12), "F12"}, {function(0), "F0"}, {function(13), "F13"}, {function(-7), "F-7"}, {function(math.MaxInt32), "F2147483647"}, {function(math.MinInt32), "F-2147483648"},
		{paste("x"), "Paste"}, {paste(""), "Paste"}, {unknown("\x1bOx"), "Unknown"}, {unknown(""), "Unknown"},
	} {
		for i, k := range withModifiers(c.k) {
			wantName(t, k, prefixesOfNames[i]+c.name)
			k.Text += "other"
			wantName(t, k, prefixesOfNames[i]+c.name)
			if k.Kind != api.KeyChar && k.Kind != api.KeyCtrl && k.Kind != api.KeyF {
				k.Char = 'x'
				wantName(t, k, prefixesOfNames[i]+c.name)
			}
		}
	}
	for _, kind := range noKinds {
		for _, k := range withModifiers(api.Key{Kind: kind, Char: 'a', Text: "text"}) {
			wantName(t, k, "")
			wantNoBytes(t, k)
		}
	}
}
