package keys_test

import (
	"slices"
	"strings"
	"testing"

	"bodkin/api"
	"bodkin/keys"
)

// The chapter's examples, as they stand there.

func TestExamplesOfDecode(t *testing.T) {
	ones := "\x1b[" + strings.Repeat("1", 30)
	wantKeys(t, "a\x01\x7f\x0d", char('a'), ctrl('A'), ctrl('?'), ctrl('M'))
	wantKeys(t, "\xe2\x82\xac\xe2\x82\x41", char(0x20AC), bad("\xe2"), bad("\x82"), char('A'))
	wantKeys(t, "\x1b", named(api.KeyEsc))
	wantKeys(t, "\x1b\x1ba", named(api.KeyEsc), meta(char('a')))
	wantKeys(t, "\x1b\xe2\x82\xac", meta(char(0x20AC)))
	wantKeys(t, "\x1b\xe2", meta(bad("\xe2")))
	wantKeys(t, "\x1b\x01", api.Key{Kind: api.KeyCtrl, Char: 'A', Ctrl: true, Meta: true})
	wantKeys(t, "\x1b\xff", meta(bad("\xff")))
	wantKeys(t, "\x1b[A", named(api.KeyUp))
	wantKeys(t, "\x1b[1;5C", api.Key{Kind: api.KeyRight, Ctrl: true})
	wantKeys(t, "\x1b[3;2~", api.Key{Kind: api.KeyDelete, Shift: true})
	wantKeys(t, "\x1bOP", function(1))
	wantKeys(t, "\x1bOx", unknown("\x1bOx"))
	wantKeys(t, "\x1bO\x01", meta(char('O')), ctrl('A'))
	wantKeys(t, "\x1b[Z", api.Key{Kind: api.KeyTab, Shift: true})
	wantKeys(t, "\x1b[1;3Z", api.Key{Kind: api.KeyTab, Shift: true, Meta: true})
	for _, s := range []string{"\x1b[9~", "\x1b[1;9A", "\x1b[?1h", "\x1b[0A", "\x1b[1;A", "\x1b[2A"} {
		wantKeys(t, s, unknown(s))
	}
	wantKeys(t, "\x1b[001A", named(api.KeyUp))
	wantKeys(t, "\x1b[1~", named(api.KeyHome))
	wantKeys(t, "\x1b[5;1~", named(api.KeyPageUp))
	wantKeys(t, "\x1b[1\x1b[B", unknown("\x1b[1"), named(api.KeyDown))
	wantKeys(t, "\x1b[\x07", meta(char('[')), ctrl('G'))
	wantKeys(t, "\x1b[", meta(char('[')))
	wantKeys(t, "\x1b[1;", unknown("\x1b[1;"))
	wantKeys(t, "\x1b[200~a\x1b[201~b", paste("a"), char('b'))
	wantKeys(t, "\x1b[200~a\x1b[2", paste("a\x1b[2"))
	wantKeys(t, "\x1b[200;1~", unknown("\x1b[200;1~"))
	wantKeys(t, "\x1b[201~", unknown("\x1b[201~"))
	wantKeys(t, ones+"A", unknown(ones), char('A'))
}

func TestExampleOfFeed(t *testing.T) {
	d := keys.New()
	for _, c := range []struct {
		s    string
		want []api.Key
		held string
	}{
		{"\x1b", nil, "\x1b"},
		{"[", nil, "\x1b["},
		{"A", []api.Key{named(api.KeyUp)}, ""},
	} {
		if got := d.Feed(c.s); !slices.Equal(got, c.want) || d.Held() != c.held {
			t.Errorf("examples: Feed(%q): %v, %q is held back", c.s, got, d.Held())
		}
	}
}

func TestExamplesOfBytesAndName(t *testing.T) {
	wantBytes(t, api.Key{Kind: api.KeyUp, Ctrl: true}, "\x1b[1;5A")
	wantBytes(t, function(12), "\x1b[24~")
	wantNoBytes(t, char('\n'))
	wantNoBytes(t, api.Key{Kind: api.KeyChar, Char: 'a', Ctrl: true})
	wantNoBytes(t, paste("a\x1b[201~b"))
	wantName(t, meta(char('a')), "M-a")
	wantName(t, ctrl('A'), "C-A")
	wantName(t, api.Key{Kind: api.KeyTab, Shift: true}, "S-Tab")
}
