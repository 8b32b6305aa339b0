package script_test

import (
	"slices"
	"strings"
	"testing"
	"unsafe"

	"bodkin/api"
	"bodkin/script"
)

// room answers a text whose bytes can be written over behind it.
func room(s string) (string, []byte) {
	bytes := []byte(s)
	return unsafe.String(unsafe.SliceData(bytes), len(bytes)), bytes
}

// TestReadKeepsNothing writes over a text behind Read.
func TestReadKeepsNothing(t *testing.T) {
	const said = "type abc\ntype a\\nb\n# x\nwidth 8\nstore rope\ntype z"
	text, bytes := room(said)
	list, _, _ := script.Read(text)
	if string(bytes) != said {
		t.Errorf("R3: Read has made %q of its text", bytes)
	}
	for i := range bytes {
		bytes[i] = '#'
	}
	if want := []api.Event{typed("abc"), typed("a\nb"), resized(8), switched(api.KindRope), typed("z")}; !slices.Equal(list, want) {
		t.Errorf("R3: the events are %v when the text is written over, want %v", list, want)
	}
}

// TestWritersKeepNothing writes over bytes behind Piece, Line and Print.
func TestWritersKeepNothing(t *testing.T) {
	for _, said := range []string{"abc", "a\n\xff"} {
		text, bytes := room(said)
		piece := script.Piece(text)
		line, _ := script.Line(typed(text))
		whole, _ := script.Print([]api.Event{typed(text)})
		if string(bytes) != said {
			t.Errorf("R3: a call has made %q of %q", bytes, said)
		}
		for i := range bytes {
			bytes[i] = '#'
		}
		want := plainPiece(said)
		if piece != want || line != "type "+want || whole != "type "+want+"\n" {
			t.Errorf("R3: %q is %q, %q, %q when it is written over", said, piece, line, whole)
		}
	}
}

// TestPrintLeavesItsList looks at the list and its spare room behind Print.
func TestPrintLeavesItsList(t *testing.T) {
	all := append(someEvents(), wrongEvents()[2])
	for n := range len(all) + 1 {
		list := append(slices.Clone(all[:n]), switched(7), switched(8))
		script.Print(list[:n])
		if !slices.Equal(list[:n], all[:n]) || list[n] != switched(7) || list[n+1] != switched(8) {
			t.Fatalf("R3: Print of %d events has changed them or their spare room", n)
		}
	}
}

// TestEventsMayBeWrittenOver: what Read answers is new each time, spare room too.
func TestEventsMayBeWrittenOver(t *testing.T) {
	text := strings.Repeat("type a\nwidth 8\n", 5)
	want, _, _ := plainRead(text)
	first, _, _ := script.Read(text)
	second, _, _ := script.Read(text)
	whole := first[:cap(first)]
	for i := range whole {
		whole[i] = switched(9)
	}
	third, _, _ := script.Read(text)
	if !slices.Equal(second, want) || !slices.Equal(third, want) {
		t.Error("R3: the events that Read answers share memory with others")
	}
}
