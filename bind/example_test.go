package bind_test

import (
	"slices"
	"testing"

	"bodkin/api"
	"bodkin/bind"
)

// want asks for the commands of the keys.
func want(t *testing.T, promise string, list []api.Key, commands ...api.Command) {
	t.Helper()
	if got := bind.Commands(list...); !slices.Equal(got, commands) {
		t.Errorf("%s: %v: %v, want %v", promise, list, got, commands)
	}
}

// of answers a list of keys.
func of(keys ...api.Key) []api.Key { return keys }

// TestExamples has the chapter's examples, as they stand there.
func TestExamples(t *testing.T) {
	const here = "examples"
	want(t, here, of(meta(char('1')), char('2'), ctrl('F')), times(12, do(api.DoRight)))
	want(t, here, of(meta(char('3')), char('x')), times(3, insert("x")))
	want(t, here, of(meta(char('0')), ctrl('D')), do(api.DoDeleteRight))
	want(t, here, of(meta(char('9')), meta(char('9')), meta(char('9')), meta(char('9')), ctrl('N')), times(1000, do(api.DoDown)))
	want(t, here, of(ctrl('X'), ctrl('X')), do(api.DoExchange))
	want(t, here, of(ctrl('X'), char('q')), do(api.DoUnbound))
	want(t, here, of(ctrl('Q'), ctrl('M')), insert("\x0d"))
	want(t, here, of(ctrl('Q'), ctrl('G')), insert("\x07"))
	want(t, here, of(ctrl('Q'), named(api.KeyUp)), do(api.DoUnbound))
	want(t, here, of(meta(char('m')), char('a')), mark(api.DoSetMark, 'a'))
	want(t, here, of(meta(char('m')), ctrl('G')), do(api.DoAbort))
	want(t, here, of(meta(char('2')), ctrl('X'), char('u')), times(2, do(api.DoUndo)))
	want(t, here, of(meta(char('2')), ctrl('Q'), char('5')), times(2, insert("5")))
	want(t, here, of(meta(char('2')), ctrl('G')), do(api.DoAbort))
	want(t, here, of(char('5')), insert("5"))
	for _, k := range []api.Key{{Kind: api.KeyF, Char: 1}, named(api.KeyTab), named(api.KeyEsc), named(api.KeyInsert), {Kind: api.KeyUnknown, Text: "\x1b[9~"}, ctrl('C'), meta(char('z'))} {
		want(t, here, of(k), do(api.DoUnbound))
	}
}
