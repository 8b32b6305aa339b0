package bind_test

import (
	"testing"

	"bodkin/api"
	"bodkin/bind"
)

// thePrefixes has the keys that are prefixes, and what Prefix tells of each.
var thePrefixes = []struct {
	key  api.Key
	name string
}{
	{ctrl('Q'), "q"},
	{ctrl('X'), "x"},
	{meta(char('m')), "m"},
	{meta(char('\'')), "'"},
}

// TestPrefixesWait has each prefix by itself: with the modifiers that are passed over it is one, with others it isn't.
func TestPrefixesWait(t *testing.T) {
	for _, p := range thePrefixes {
		for _, k := range modified(p.key) {
			k.Text = "not used"
			is := noMeta(k)
			if k.Kind == api.KeyChar {
				is = metaOnly(k)
			}
			b := bind.New()
			c, ok := b.Key(k)
			if is && (ok || c != api.Command{} || waits(b) != waiting{p.name, 1, false}) {
				t.Errorf("P19.1: the prefix %v: %v, %v; %v waits", k, c, ok, waits(b))
			}
			if !is && (!ok || waits(b) != nothing) {
				t.Errorf("P19.1: %v is no prefix: %v, %v; %v waits", k, c, ok, waits(b))
			}
			if c, ok := bind.Single(k); ok == is || is && c != (api.Command{}) {
				t.Errorf("P19.4: Single of %v: %v, %v", k, c, ok)
			}
		}
	}
}

// TestAllKeysBehindPrefixes has all keys behind each prefix, with a count ahead and without.
func TestAllKeysBehindPrefixes(t *testing.T) {
	for _, k := range allKeys() {
		for _, p := range thePrefixes {
			b := bind.New()
			b.Key(p.key)
			want := plainBehind(p.name, k)
			if c, ok := b.Key(k); !ok || c != want || waits(b) != nothing {
				t.Fatalf("P19.1: %v behind %s: %v, %v, want %v; %v waits", k, p.name, c, ok, want, waits(b))
			}
			b.Key(meta(char('4')))
			b.Key(p.key)
			if want.Kind != api.DoAbort {
				want.Count = 4
			}
			if c, ok := b.Key(k); !ok || c != want || waits(b) != nothing {
				t.Fatalf("P19.1: 4, and %v behind %s: %v, %v, want %v; %v waits", k, p.name, c, ok, want, waits(b))
			}
		}
	}
}

// TestQuoted has the keys behind C-q.
func TestQuoted(t *testing.T) {
	behind := func(k api.Key, commands ...api.Command) {
		t.Helper()
		want(t, "P19.1", of(ctrl('Q'), k), commands...)
	}
	unbound := do(api.DoUnbound)
	wanted := func(k api.Key, text string, passes func(api.Key) bool) {
		t.Helper()
		for _, k := range modified(k) {
			if passes(k) {
				behind(k, insert(text))
			} else {
				behind(k, unbound)
			}
		}
	}
	for _, c := range []rune{'a', '5', 'm', '\'', '@', 7, 0, 0x7F, 0x20AC, 0x10FFFF} {
		wanted(char(c), string(c), neither)
	}
	wanted(bad("\xff"), "\xff", neither)
	wanted(bad("\xe2\x82"), "\xe2\x82", neither)
	wanted(named(api.KeyEsc), "\x1b", noMeta)
	wanted(api.Key{Kind: api.KeyEsc, Char: 'x', Text: "x"}, "\x1b", noMeta)
	for c := '@'; c <= '_'; c++ {
		wanted(ctrl(c), string([]byte{byte(c - 64)}), noMeta)
	}
	wanted(ctrl('?'), "\x7f", noMeta)
	for _, c := range []rune{-1, 0, 1, 62, 96, 'a', 'q', 127, 128, 192, 64 + 256, 1 << 30} {
		wanted(ctrl(c), "", func(api.Key) bool { return false })
	}
	for _, c := range []rune{-1, 0xD800, 0x110000} {
		wanted(char(c), "", func(api.Key) bool { return false })
	}
	wanted(bad(""), "", func(api.Key) bool { return false })
	for _, kind := range []api.KeyKind{api.KeyUp, api.KeyDelete, api.KeyTab, api.KeyF, api.KeyPaste, api.KeyUnknown, 0, 19} {
		wanted(api.Key{Kind: kind, Char: 'a', Text: "text"}, "", func(api.Key) bool { return false })
	}
}

// TestBehindCtrlX has the keys behind C-x.
func TestBehindCtrlX(t *testing.T) {
	for _, x := range []struct {
		key    api.Key
		kind   api.CommandKind
		passes func(api.Key) bool
	}{
		{ctrl('X'), api.DoExchange, noMeta}, {char('u'), api.DoUndo, neither}, {char('r'), api.DoRedo, neither}, {ctrl('G'), api.DoAbort, noMeta},
	} {
		for _, k := range modified(x.key) {
			if x.passes(k) {
				want(t, "P19.1", of(ctrl('X'), k), do(x.kind))
			} else {
				want(t, "P19.1", of(ctrl('X'), k), do(api.DoUnbound))
			}
		}
	}
	for _, k := range []api.Key{
		ctrl('Q'), meta(char('m')), meta(char('\'')), char('5'), meta(char('5')), char('x'), char('U'), char('R'), char('m'), ctrl('U'), ctrl('R'), ctrl('A'), ctrl('x'), bad("u"), paste("u"), named(api.KeyUp), named(api.KeyEsc), {Kind: api.KeyF, Char: 'u'}, {},
	} {
		want(t, "P19.1", of(ctrl('X'), k), do(api.DoUnbound))
	}
}

// TestBehindMarks has the keys behind Meta "m" and Meta "'".
func TestBehindMarks(t *testing.T) {
	for _, x := range []struct {
		prefix api.Key
		kind   api.CommandKind
	}{
		{meta(char('m')), api.DoSetMark}, {meta(char('\'')), api.DoGoMark},
	} {
		for c := rune(-1); c < 0x200; c++ {
			for _, k := range modified(char(c)) {
				if neither(k) && (c == '@' || c >= 'a' && c <= 'z') {
					want(t, "P19.1", of(x.prefix, k), mark(x.kind, byte(c)))
				} else {
					want(t, "P19.1", of(x.prefix, k), do(api.DoUnbound))
				}
			}
		}
		for _, k := range modified(ctrl('G')) {
			if k.Meta {
				want(t, "P19.1", of(x.prefix, k), do(api.DoUnbound))
			} else {
				want(t, "P19.1", of(x.prefix, k), do(api.DoAbort))
			}
		}
		for _, k := range []api.Key{ctrl('Q'), ctrl('X'), ctrl('@'), ctrl('A'), ctrl('a'), char('a' + 256), char('a' + 1<<16), bad("a"), paste("a"), named(api.KeyUp), named(api.KeyEsc), {Kind: api.KeyF, Char: 'a'}, {}} {
			want(t, "P19.1", of(x.prefix, k), do(api.DoUnbound))
		}
	}
}

// TestPrefixesAreForgotten has the key behind the command: it is read as if no prefix had been.
func TestPrefixesAreForgotten(t *testing.T) {
	for _, p := range thePrefixes {
		for _, k := range []api.Key{char('a'), char('u'), char('5'), ctrl('G'), ctrl('X'), ctrl('Q'), meta(char('5')), meta(char('m')), named(api.KeyUp), paste("x"), {}} {
			first := plainBehind(p.name, k)
			want(t, "P19.1", of(p.key, k, char('u'), char('5'), ctrl('A')), first, insert("u"), insert("5"), do(api.DoLineStart))
		}
	}
}
