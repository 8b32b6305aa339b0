package keys_test

import (
	"slices"
	"strconv"
	"strings"
	"testing"

	"bodkin/api"
	"bodkin/keys"
)

// This file has the edges that the chapter names, each with its answer written down, not reckoned by the plain reading.

// wantKeys holds Decode against what is written down, and everything else about s against the plain reading.
func wantKeys(t *testing.T, s string, want ...api.Key) {
	t.Helper()
	if got := keys.Decode(s); !slices.Equal(got, want) {
		t.Errorf("P18.1: Decode(%q): %v, want %v", s, got, want)
	}
	lookAt(t, s)
}

// wantHeld has the keys that Feed of s answers, what is held back then, and the keys for that.
func wantHeld(t *testing.T, s string, fed []api.Key, held string, flushed ...api.Key) {
	t.Helper()
	d := keys.New()
	if got := d.Feed(s); !slices.Equal(got, fed) || d.Held() != held {
		t.Errorf("P18.1: Feed(%q): %v, %q is held back, want %v, %q", s, got, d.Held(), fed, held)
	}
	if got := d.Flush(); !slices.Equal(got, flushed) || d.Held() != "" {
		t.Errorf("P18.2: Flush behind %q: %v, %q is held back, want %v", s, got, d.Held(), flushed)
	}
	lookAt(t, s)
}

// one answers the text of one byte.
func one(b int) string { return string([]byte{byte(b)}) }

// alone answers the key of one byte that isn't ESC, and whether it is held back as a character's beginning.
func alone(b int) (k api.Key, begins bool) {
	switch {
	case b < 0x20:
		return api.Key{Kind: api.KeyCtrl, Char: rune("@ABCDEFGHIJKLMNOPQRSTUVWXYZ[\\]^_"[b]), Ctrl: true}, false
	case b < 0x7F:
		return char(rune(b)), false
	case b == 0x7F:
		return ctrl('?'), false
	}
	return bad(one(b)), b >= 0xC2 && b <= 0xF4
}

func TestEveryByte(t *testing.T) {
	for b := range 256 {
		s := one(b)
		k, begins := alone(b)
		switch {
		case b == 0x1B:
			wantHeld(t, s, nil, s, named(api.KeyEsc))
		case begins:
			wantHeld(t, s, nil, s, k)
		default:
			wantHeld(t, s, []api.Key{k}, "")
		}
	}
}

func TestEveryByteBehindEsc(t *testing.T) {
	for b := range 256 {
		s := "\x1b" + one(b)
		k, begins := alone(b)
		switch {
		case b == 0x1B:
			wantHeld(t, s, []api.Key{named(api.KeyEsc)}, "\x1b", named(api.KeyEsc))
		case b == '[', b == 'O', begins:
			wantHeld(t, s, nil, s, meta(k))
		default:
			wantHeld(t, s, []api.Key{meta(k)}, "")
		}
	}
}

// lookAtByteBehind has what comes of a byte that ends no sequence, behind something that then is the key ahead.
func lookAtByteBehind(t *testing.T, begun string, b int, ahead api.Key) {
	t.Helper()
	k, begins := alone(b)
	switch {
	case b == 0x1B:
		wantHeld(t, begun+"\x1b", []api.Key{ahead}, "\x1b", named(api.KeyEsc))
	case begins:
		wantHeld(t, begun+one(b), []api.Key{ahead}, one(b), k)
	default:
		wantHeld(t, begun+one(b), []api.Key{ahead, k}, "")
	}
}

// letters are the keys whose ends are letters.
var letters = map[int]api.Key{
	'A': {Kind: api.KeyUp}, 'B': {Kind: api.KeyDown}, 'C': {Kind: api.KeyRight}, 'D': {Kind: api.KeyLeft}, 'H': {Kind: api.KeyHome}, 'F': {Kind: api.KeyEnd},
	'P': {Kind: api.KeyF, Char: 1}, 'Q': {Kind: api.KeyF, Char: 2}, 'R': {Kind: api.KeyF, Char: 3}, 'S': {Kind: api.KeyF, Char: 4},
}

// endedBy answers the key of a CSI sequence with the number 1 and that end.
func endedBy(s string, end int) api.Key {
	k, ok := letters[end]
	switch {
	case ok:
		return k
	case end == 'Z':
		return api.Key{Kind: api.KeyTab, Shift: true}
	case end == '~':
		return named(api.KeyHome)
	}
	return unknown(s)
}

func TestEveryByteBehindCSI(t *testing.T) {
	for _, begun := range []string{"\x1b[", "\x1b[1"} {
		ahead := unknown(begun)
		if begun == "\x1b[" {
			ahead = meta(char('['))
		}
		for b := range 256 {
			s := begun + one(b)
			switch {
			case b >= 0x20 && b < 0x40:
				wantHeld(t, s, nil, s, unknown(s))
			case b >= 0x40 && b < 0x7F:
				wantHeld(t, s, []api.Key{endedBy(s, b)}, "")
			default:
				lookAtByteBehind(t, begun, b, ahead)
			}
		}
	}
}

func TestEveryByteBehindSS3(t *testing.T) {
	for b := range 256 {
		s := "\x1bO" + one(b)
		k, ok := letters[b]
		switch {
		case ok:
			wantHeld(t, s, []api.Key{k}, "")
		case b >= 0x40 && b < 0x7F:
			wantHeld(t, s, []api.Key{unknown(s)}, "")
		default:
			lookAtByteBehind(t, "\x1bO", b, meta(char('O')))
		}
	}
}

// numbered are the keys by their numbers, with the end ~.
var numbered = map[int]api.Key{
	1: {Kind: api.KeyHome}, 2: {Kind: api.KeyInsert}, 3: {Kind: api.KeyDelete}, 4: {Kind: api.KeyEnd}, 5: {Kind: api.KeyPageUp}, 6: {Kind: api.KeyPageDown}, 7: {Kind: api.KeyHome}, 8: {Kind: api.KeyEnd},
	11: {Kind: api.KeyF, Char: 1}, 12: {Kind: api.KeyF, Char: 2}, 13: {Kind: api.KeyF, Char: 3}, 14: {Kind: api.KeyF, Char: 4}, 15: {Kind: api.KeyF, Char: 5},
	17: {Kind: api.KeyF, Char: 6}, 18: {Kind: api.KeyF, Char: 7}, 19: {Kind: api.KeyF, Char: 8}, 20: {Kind: api.KeyF, Char: 9}, 21: {Kind: api.KeyF, Char: 10},
	23: {Kind: api.KeyF, Char: 11}, 24: {Kind: api.KeyF, Char: 12},
}

// modified answers k with the modifiers of m, which is from 1 to 8.
func modified(k api.Key, m int) api.Key {
	k.Shift = k.Shift || []bool{false, true, false, true, false, true, false, true}[m-1]
	k.Meta = []bool{false, false, true, true, false, false, true, true}[m-1]
	k.Ctrl = []bool{false, false, false, false, true, true, true, true}[m-1]
	return k
}

// TestNumbers has every end with every number, and with second numbers.
func TestNumbers(t *testing.T) {
	for n := range 1000 {
		for end := 0x40; end <= 0x7E; end++ {
			k, ok := numbered[n]
			if end != '~' {
				k = endedBy("", end)
				ok = n == 1 && k.Kind != api.KeyUnknown
			}
			for m := range 11 {
				s := "\x1b[" + strconv.Itoa(n) + ";" + strconv.Itoa(m) + one(end)
				want := unknown(s)
				if ok && m >= 1 && m <= 8 {
					want = modified(k, m)
				}
				lookAtOne(t, s, want)
			}
			if s := "\x1b[" + strconv.Itoa(n) + one(end); ok {
				lookAtOne(t, s, k)
			} else if n == 200 && end == '~' {
				lookAtOne(t, s, paste(""))
			} else {
				lookAtOne(t, s, unknown(s))
			}
		}
	}
}

// lookAtOne has s be the bytes of one key, and no more.
func lookAtOne(t *testing.T, s string, want api.Key) {
	t.Helper()
	if got := keys.Decode(s); len(got) != 1 || got[0] != want {
		t.Fatalf("P18.1: Decode(%q): %v, want %v", s, got, want)
	}
}

// TestForms has insides that have the form of numbers, and others.
func TestForms(t *testing.T) {
	for _, s := range []string{"\x1b[01A", "\x1b[001A", "\x1b[1;1A", "\x1b[1;01A", "\x1b[1;001A", "\x1b[001;001A", "\x1bOA"} {
		wantKeys(t, s, named(api.KeyUp))
	}
	wantKeys(t, "\x1b[01;08D", api.Key{Kind: api.KeyLeft, Ctrl: true, Meta: true, Shift: true})
	wantKeys(t, "\x1b[~", named(api.KeyHome))
	wantKeys(t, "\x1b[003;007~", api.Key{Kind: api.KeyDelete, Ctrl: true, Meta: true})
	wantKeys(t, "\x1b[1;1Z", api.Key{Kind: api.KeyTab, Shift: true})
	wantKeys(t, "\x1b[1;2Z", api.Key{Kind: api.KeyTab, Shift: true})
	wantKeys(t, "\x1b[1;5Z", api.Key{Kind: api.KeyTab, Shift: true, Ctrl: true})
	for _, inside := range []string{
		"0001", "0000", "1000", "1;0001", "0001;1", "1;1000", ";", "1;", ";1", ";5", "1;;1", "1;1;", ";1;1", "1;1;1", "1;2;3", "?", "?1", "1?", "1;?2", "<1", "=1", ">1", ":", "1:2", "1,2",
		" ", " 1", "1 ", "1; 2", "+1", "-1", "1;-1", "1;+1", "1.0", "0", "00", "000", "0;1", "1;0", "1;00", "1;000", "1;9", "1;009", "1;10", "1;256", "1;257", "1;999", "2", "999", "257", "001;", "1/1", "0:",
	} {
		for _, end := range "ABCDHFPQRSZamx@" {
			s := "\x1b[" + inside + string(end)
			lookAtOne(t, s, unknown(s))
		}
		lookAt(t, "\x1b["+inside+"A")
	}
	for _, s := range []string{"\x1b[0~", "\x1b[9~", "\x1b[10~", "\x1b[16~", "\x1b[22~", "\x1b[25~", "\x1b[99~", "\x1b[201~", "\x1b[202~", "\x1b[999~", "\x1b[0003~", "\x1b[3;~", "\x1b[3;0~", "\x1b[3;9~", "\x1b[;~", "\x1b[3;2;1~", "\x1b[256~", "\x1b[259~"} {
		wantKeys(t, s, unknown(s))
	}
}

// TestLongSequences has sequences of MostSequence bytes, of fewer and of more.
func TestLongSequences(t *testing.T) {
	for _, filling := range []string{"1", ";", "?", " ", "/"} {
		most := "\x1b[" + strings.Repeat(filling, 30)
		less := most[:31]
		wantHeld(t, most, []api.Key{unknown(most)}, "")
		wantHeld(t, less, nil, less, unknown(less))
		wantHeld(t, most[:30], nil, most[:30], unknown(most[:30]))
		wantHeld(t, most+filling, []api.Key{unknown(most), char(rune(filling[0]))}, "")
		wantHeld(t, most+"A", []api.Key{unknown(most), char('A')}, "")
		wantHeld(t, most+"\x1b", []api.Key{unknown(most)}, "\x1b", named(api.KeyEsc))
		wantHeld(t, most+"\x07", []api.Key{unknown(most), ctrl('G')}, "")
		// Here the byte number 32 is the end.
		wantHeld(t, less+"A", []api.Key{unknown(less + "A")}, "")
		wantHeld(t, less+"~x", []api.Key{unknown(less + "~"), char('x')}, "")
		wantHeld(t, less[:30]+"AB", []api.Key{unknown(less[:30] + "A"), char('B')}, "")
		// And here it breaks off ahead of that.
		wantHeld(t, less+"\x07", []api.Key{unknown(less), ctrl('G')}, "")
		wantHeld(t, less+"\x7f", []api.Key{unknown(less), ctrl('?')}, "")
		wantHeld(t, less+"\x1b[A", []api.Key{unknown(less), named(api.KeyUp)}, "")
		wantHeld(t, less+"\xe2", []api.Key{unknown(less)}, "\xe2", bad("\xe2"))
		wantHeld(t, most+most+"\x1b", []api.Key{unknown(most), unknown(most)}, "\x1b", named(api.KeyEsc))
	}
}

func TestEscapes(t *testing.T) {
	escape := named(api.KeyEsc)
	wantHeld(t, "\x1b\x1b", []api.Key{escape}, "\x1b", escape)
	wantHeld(t, "\x1b\x1b\x1b", []api.Key{escape, escape}, "\x1b", escape)
	wantHeld(t, "\x1b\x1b[A", []api.Key{escape, named(api.KeyUp)}, "")
	wantHeld(t, "\x1b\x1bOA", []api.Key{escape, named(api.KeyUp)}, "")
	wantHeld(t, "\x1b\x1b\x01", []api.Key{escape, meta(ctrl('A'))}, "")
	wantHeld(t, "\x1b\x1b[", []api.Key{escape}, "\x1b[", meta(char('[')))
	wantHeld(t, "\x1b[\x1b[", []api.Key{meta(char('['))}, "\x1b[", meta(char('[')))
	wantHeld(t, "\x1bO\x1bO", []api.Key{meta(char('O'))}, "\x1bO", meta(char('O')))
	wantHeld(t, "\x1bO\x1b\x1b", []api.Key{meta(char('O')), escape}, "\x1b", escape)
	wantHeld(t, "\x1bO[A", []api.Key{unknown("\x1bO["), char('A')}, "")
	wantHeld(t, "\x1bO1A", []api.Key{meta(char('O')), char('1'), char('A')}, "")
	wantHeld(t, "\x1b[[A", []api.Key{unknown("\x1b[["), char('A')}, "")
	wantHeld(t, "\x1b[O", []api.Key{unknown("\x1b[O")}, "")
	wantHeld(t, "[A", []api.Key{char('['), char('A')}, "")
	wantHeld(t, "OA", []api.Key{char('O'), char('A')}, "")
	wantHeld(t, "\u009bA", []api.Key{char(0x9B), char('A')}, "")
	wantHeld(t, "\x9bA", []api.Key{bad("\x9b"), char('A')}, "")
	wantHeld(t, "", nil, "")
}

// badEach answers a KeyBad for each byte, the first with Meta if there is an ESC ahead.
func badEach(text string, escaped bool) []api.Key {
	var list []api.Key
	for i := range len(text) {
		k := bad(text[i : i+1])
		k.Meta = escaped && i == 0
		list = append(list, k)
	}
	return list
}

// TestCharacters has characters of each size, whole, only begun and broken off, with an ESC ahead and without.
func TestCharacters(t *testing.T) {
	for _, c := range []rune{0x80, 0x85, 0x9F, 0xA0, 0xE9, 0x301, 0x7FF, 0x800, 0x20AC, 0xD7FF, 0xE000, 0xFFFD, 0xFFFF, 0x10000, 0x1F600, 0x10FFFF} {
		for _, ahead := range []string{"", "\x1b"} {
			whole, k := string(c), char(c)
			k.Meta = ahead != ""
			wantHeld(t, ahead+whole, []api.Key{k}, "")
			wantHeld(t, ahead+whole+whole, []api.Key{k, char(c)}, "")
			for n := 1; n < len(whole); n++ {
				part := whole[:n]
				bads := badEach(part, ahead != "")
				wantHeld(t, ahead+part, nil, ahead+part, bads...)
				wantHeld(t, ahead+part+"A", append(slices.Clone(bads), char('A')), "")
				wantHeld(t, ahead+part+"\x01", append(slices.Clone(bads), ctrl('A')), "")
				wantHeld(t, ahead+part+"\x7f", append(slices.Clone(bads), ctrl('?')), "")
				wantHeld(t, ahead+part+"\x1b", bads, "\x1b", named(api.KeyEsc))
				wantHeld(t, ahead+part+"\x1b[A", append(slices.Clone(bads), named(api.KeyUp)), "")
				wantHeld(t, ahead+part+whole, append(slices.Clone(bads), char(c)), "")
				wantHeld(t, ahead+part+part, bads, part, badEach(part, false)...)
				wantHeld(t, ahead+part+"\xff", append(slices.Clone(bads), bad("\xff")), "")
				wantHeld(t, ahead+part+"\xc2", bads, "\xc2", bad("\xc2"))
			}
		}
	}
	// These begin nothing, or nothing with the next byte.
	for _, s := range []string{"\x80", "\xbf\xbf", "\xc0\x80", "\xc1\xbf", "\xe0\x80", "\xe0\x9f\xbf", "\xed\xa0\x80", "\xf0\x80", "\xf0\x8f\xbf\xbf", "\xf4\x90\x80\x80", "\xf5\x80", "\xff\xfe"} {
		wantHeld(t, s, badEach(s, false), "")
		wantHeld(t, "\x1b"+s, badEach(s, true), "")
	}
}

func TestPastes(t *testing.T) {
	const begin, end = "\x1b[200~", "\x1b[201~"
	for _, text := range []string{
		"", "a", "two\r\nlines", "\x1b", "\x1b\x1b", "\x1b[", "\x1bO", "\x1b[A", "\x1b[1;5C\x01\x7f", begin, begin + begin, begin + "x",
		end[:1], end[:2], end[:3], end[:4], end[:5], end[1:], end[:5] + "x", end[:5] + end[:5], end[:5] + "\x1b", "[201~", "\x1b[2001~", "\x1b[201;1~", "\x1b[0201~", "\x1b[202~",
		"\xe2\x82", "\xff\u20ac\x00", strings.Repeat("~", 99), "\x1b[" + strings.Repeat("1", 40), strings.Repeat("long ", 99),
	} {
		wantHeld(t, begin+text+end, []api.Key{paste(text)}, "")
		wantHeld(t, begin+text, nil, begin+text, paste(text))
		wantHeld(t, "x"+begin+text+end+"y", []api.Key{char('x'), paste(text), char('y')}, "")
		wantHeld(t, begin+text+end+end, []api.Key{paste(text), unknown(end)}, "")
		wantHeld(t, begin+text+end+begin+text, []api.Key{paste(text)}, begin+text, paste(text))
		wantHeld(t, "\x1b"+begin+text+end+"\x1b", []api.Key{named(api.KeyEsc), paste(text)}, "\x1b", named(api.KeyEsc))
	}
	wantHeld(t, begin+begin+"a"+end+"b"+end, []api.Key{paste(begin + "a"), char('b'), unknown(end)}, "")
	wantHeld(t, end, []api.Key{unknown(end)}, "")
	wantHeld(t, "a"+end+"b", []api.Key{char('a'), unknown(end), char('b')}, "")
	for _, s := range []string{"\x1b[200;1~", "\x1b[200;2~", "\x1b[200;200~", "\x1b[0200~", "\x1b[200;~", "\x1b[;200~", "\x1b[1;200~", "\x1b[200A", "\x1b[200^", "\x1b[201;1~"} {
		wantHeld(t, s+"a", []api.Key{unknown(s), char('a')}, "")
	}
}
