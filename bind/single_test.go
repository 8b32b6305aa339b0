package bind_test

import (
	"math"
	"testing"

	"bodkin/api"
	"bodkin/bind"
)

// modified answers k with each combination of Ctrl, Meta and Shift.
func modified(k api.Key) []api.Key {
	var list []api.Key
	for bits := range 8 {
		k.Ctrl, k.Meta, k.Shift = bits&1 != 0, bits&2 != 0, bits&4 != 0
		list = append(list, k)
	}
	return list
}

// allKeys answers keys of each kind, and of kinds that are none, with each modifier, many Chars and some Texts, whether the kind uses them or not.
func allKeys() []api.Key {
	chars := []rune{0x80, 0xE9, 0xD7FF, 0xD800, 0xDFFF, 0xE000, 0xFFFD, 0x10FFFF, 0x110000, 64 + 256, 'A' + 256, 'm' + 256, 'a' + 1<<16, '5' + 1<<16, math.MaxInt32, math.MinInt32}
	for c := rune(-2); c < 130; c++ {
		chars = append(chars, c)
	}
	kinds := []api.KeyKind{99, math.MaxInt, math.MinInt, 1<<32 + 1}
	for kind := api.KeyKind(-1); kind <= api.KeyUnknown+2; kind++ {
		kinds = append(kinds, kind)
	}
	var list []api.Key
	for _, kind := range kinds {
		for _, c := range chars {
			for _, text := range []string{"", "\xff", "b\x00\n"} {
				list = append(list, modified(api.Key{Kind: kind, Char: c, Text: text})...)
			}
		}
	}
	return list
}

// TestAllKeys has Single of all keys: prefixes and digits with Meta make nothing, each other key one command.
func TestAllKeys(t *testing.T) {
	if len(rows) != 54 {
		t.Fatalf("the table has %d rows", len(rows))
	}
	met := map[string]bool{}
	for _, k := range allKeys() {
		made, _ := plainly(of(k))
		c, ok := bind.Single(k)
		if len(made) == 0 && (ok || c != api.Command{}) {
			t.Fatalf("P19.4: Single of %v: %v, %v", k, c, ok)
		}
		if len(made) == 1 && (!ok || c != made[0]) {
			t.Fatalf("P19.4: Single of %v: %v, %v, want %v", k, c, ok, made[0])
		}
		met[written(k)] = true
		lookAt(t, k)
	}
	for name := range rows {
		if !met[name] {
			t.Errorf("the row %s was never asked for", name)
		}
	}
}

// wantSingle asks for the command of k with those modifiers that pass the filter, and for DoUnbound with all others.
func wantSingle(t *testing.T, k api.Key, c api.Command, passes func(api.Key) bool) {
	t.Helper()
	for _, k := range modified(k) {
		want := do(api.DoUnbound)
		if passes(k) {
			want = c
		}
		if got, ok := bind.Single(k); !ok || got != want {
			t.Errorf("P19.4: Single of %v: %v, %v, want %v", k, got, ok, want)
		}
	}
}

// The modifiers that rows ask for.
func always(api.Key) bool     { return true }
func noMeta(k api.Key) bool   { return !k.Meta }
func withMeta(k api.Key) bool { return k.Meta }
func neither(k api.Key) bool  { return !k.Ctrl && !k.Meta }
func metaOnly(k api.Key) bool { return !k.Ctrl && k.Meta }
func either(k api.Key) bool   { return k.Ctrl || k.Meta }

// TestTexts has the keys that stand for a text.
func TestTexts(t *testing.T) {
	for _, c := range []rune{'x', ' ', '~', '0', '9', 'm', 0, 7, 0x1B, 0x7F, 0x85, 0xE9, 0x20AC, 0xFFFD, 0x1F600, 0x10FFFF} {
		k := char(c)
		k.Text = "not used"
		for _, k := range modified(k) {
			if neither(k) {
				want(t, "P19.4", of(k), insert(string(c)))
			}
		}
	}
	for _, c := range []rune{-1, 0xD800, 0xDBFF, 0xDFFF, 0x110000, math.MaxInt32, math.MinInt32} {
		wantSingle(t, char(c), api.Command{}, func(api.Key) bool { return false })
	}
	for _, text := range []string{"\xff", "\x80", "\xe2\x82", "any text"} {
		k := bad(text)
		k.Char = '5'
		wantSingle(t, k, insert(text), neither)
	}
	wantSingle(t, bad(""), api.Command{}, func(api.Key) bool { return false })
	for _, text := range []string{"", "a", "a\nb", "\xff\x00\x1b[201", "12"} {
		wantSingle(t, paste(text), api.Command{Kind: api.DoPaste, Count: 1, Text: text}, always)
	}
}

// TestControls has every control key, and Chars that are none.
func TestControls(t *testing.T) {
	bare := map[rune]api.CommandKind{
		'A': api.DoLineStart, 'B': api.DoLeft, 'D': api.DoDeleteRight, 'E': api.DoLineEnd, 'F': api.DoRight, 'G': api.DoAbort, 'H': api.DoDeleteLeft, 'J': api.DoNewline, 'K': api.DoKillLineEnd, 'L': api.DoRepaint, 'M': api.DoAccept,
		'N': api.DoDown, 'P': api.DoUp, 'R': api.DoSearch, 'T': api.DoTransposeChars, 'U': api.DoKillLineStart, 'W': api.DoKillRegion, 'Y': api.DoYank, '^': api.DoRedo, '_': api.DoUndo, '?': api.DoDeleteLeft,
	}
	for c := rune(-300); c < 500; c++ {
		kind, ok := bare[c]
		switch {
		case c == '@':
			wantSingle(t, ctrl(c), mark(api.DoSetMark, '@'), noMeta)
		case c == 'I':
			wantSingle(t, ctrl(c), insert("\t"), noMeta)
		case c == 'H' || c == '?':
			for _, k := range modified(ctrl(c)) {
				if k.Meta {
					want(t, "P19.4", of(k), do(api.DoKillWordLeft))
				} else {
					want(t, "P19.4", of(k), do(api.DoDeleteLeft))
				}
			}
		case c == 'Q' || c == 'X':
			for _, k := range modified(ctrl(c)) {
				if k.Meta {
					want(t, "P19.4", of(k), do(api.DoUnbound))
				} else {
					want(t, "P19.4", of(k))
				}
			}
		case ok:
			wantSingle(t, ctrl(c), do(kind), noMeta)
		default:
			wantSingle(t, ctrl(c), do(api.DoUnbound), always)
		}
	}
	for _, c := range []rune{'A' + 1<<8, 'G' + 1<<16, '@' + 1<<24, math.MaxInt32, math.MinInt32} {
		wantSingle(t, ctrl(c), do(api.DoUnbound), always)
	}
}

// TestMetaCharacters has the characters with Meta, and those that have no row.
func TestMetaCharacters(t *testing.T) {
	kinds := map[rune]api.CommandKind{
		'b': api.DoWordLeft, 'f': api.DoWordRight, 'd': api.DoKillWordRight, '<': api.DoTextStart, '>': api.DoTextEnd, 'w': api.DoCopyRegion, 'y': api.DoYankPop, 't': api.DoTransposeWords,
		'u': api.DoUpperWord, 'l': api.DoLowerWord, 'c': api.DoCapitalWord, 'p': api.DoHistoryBack, 'n': api.DoHistoryForward,
	}
	for c := range rune(0x300) {
		for _, k := range modified(char(c)) {
			kind, ok := kinds[c]
			switch {
			case neither(k):
				want(t, "P19.4", of(k), insert(string(c)))
			case k.Ctrl:
				want(t, "P19.4", of(k), do(api.DoUnbound))
			case c == 'm' || c == '\'' || c >= '0' && c <= '9':
				want(t, "P19.4", of(k))
			case ok && metaOnly(k):
				want(t, "P19.4", of(k), do(kind))
			default:
				want(t, "P19.4", of(k), do(api.DoUnbound))
			}
		}
	}
	for c := range kinds {
		k := meta(bad("\xff"))
		k.Char = c
		want(t, "P19.4", of(k), do(api.DoUnbound))
	}
}

// TestNamedKeys has the keys with names, with every modifier and with a Char and a Text that they don't use.
func TestNamedKeys(t *testing.T) {
	for _, x := range []struct {
		kind       api.KeyKind
		bare, with api.CommandKind
	}{
		{api.KeyLeft, api.DoLeft, api.DoWordLeft}, {api.KeyRight, api.DoRight, api.DoWordRight}, {api.KeyUp, api.DoUp, api.DoHistoryBack}, {api.KeyDown, api.DoDown, api.DoHistoryForward},
		{api.KeyHome, api.DoLineStart, api.DoTextStart}, {api.KeyEnd, api.DoLineEnd, api.DoTextEnd}, {api.KeyDelete, api.DoDeleteRight, api.DoKillWordRight},
		{api.KeyPageUp, api.DoHistoryBack, api.DoUnbound}, {api.KeyPageDown, api.DoHistoryForward, api.DoUnbound},
		{api.KeyEsc, api.DoUnbound, api.DoUnbound}, {api.KeyInsert, api.DoUnbound, api.DoUnbound}, {api.KeyTab, api.DoUnbound, api.DoUnbound}, {api.KeyF, api.DoUnbound, api.DoUnbound}, {api.KeyUnknown, api.DoUnbound, api.DoUnbound},
		{0, api.DoUnbound, api.DoUnbound}, {-1, api.DoUnbound, api.DoUnbound}, {19, api.DoUnbound, api.DoUnbound}, {math.MaxInt, api.DoUnbound, api.DoUnbound}, {math.MinInt, api.DoUnbound, api.DoUnbound},
	} {
		for _, c := range []rune{0, 1, 'x', 'm', '5', 'Q', 'G'} {
			for _, k := range modified(api.Key{Kind: x.kind, Char: c, Text: "text"}) {
				kind := x.bare
				if either(k) {
					kind = x.with
				}
				want(t, "P19.4", of(k), do(kind))
			}
		}
	}
}
