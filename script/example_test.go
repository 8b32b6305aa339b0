package script_test

import (
	"slices"
	"testing"

	"bodkin/api"
	"bodkin/script"
)

// TestExamples has the chapter's examples, as they stand there.
func TestExamples(t *testing.T) {
	const text = `type a\x00\e[A

# x
width 80
store rope
`
	wantEvents(t, text, typed("\x61\x00\x1b\x5b\x41"), resized(80), switched(api.KindRope))
	for _, line := range []string{"type", "width 0", "width 08", "width 65536", "width  8", "store hybrid", `type a\q`, `type a\xA0`, `type \x7`, " type a", "type \x7f", "type \xe9", "type \r"} {
		wantWrong(t, line, 1)
		wantWrong(t, line+"\n", 1)
		wantWrong(t, text+line, 6)
		wantWrong(t, text+line+"\n"+text, 6)
	}
	wantEvents(t, "type ", typed(""))
	wantEvents(t, "")
	wantPiece(t, "\x5c\x09\x7f\x20", `\\\t\x7f `)
	wantLine(t, switched(api.KindHybrid), "", api.ErrKind)
	wantLine(t, resized(0), "", api.ErrRange)
	wantLine(t, api.Event{Kind: api.EventResize, Bytes: "x", Width: 7}, "width 7", api.OK)
}

// TestReadme has what README.md shows of this package.
func TestReadme(t *testing.T) {
	list, _, err := script.Read("# a remark\ntype ab\\x7f\\e[A\n\nwidth 80\nstore rope\n")
	if want := []api.Event{typed("ab\x7f\x1b[A"), resized(80), switched(api.KindRope)}; !slices.Equal(list, want) || err != api.OK {
		t.Errorf("P24.1: %v, %d", list, err)
	}
	wantWrong(t, "type a\n\nwidth 08", 3)
	wantPrint(t, list, "type ab\\x7f\\e[A\nwidth 80\nstore rope\n", api.OK)
	wantLine(t, resized(0), "", api.ErrRange)
	wantPiece(t, "\t\u00e9\\", `\t\xc3\xa9\\`)
}
