package script_test

import (
	"math"
	"slices"
	"strings"
	"testing"

	"bodkin/api"
	"bodkin/script"
)

// wantPiece asks for a piece, and for the same bytes when it is read.
func wantPiece(t *testing.T, bytes, want string) {
	t.Helper()
	if piece := script.Piece(bytes); piece != want {
		t.Errorf("P24.2: Piece(%q): %q, want %q", bytes, piece, want)
		return
	}
	wantEvents(t, "type "+want, typed(bytes))
}

// wantLine asks for the line of an event, and its error.
func wantLine(t *testing.T, e api.Event, want string, wantErr api.Errno) {
	t.Helper()
	if line, err := script.Line(e); line != want || err != wantErr {
		t.Errorf("P24.3: Line(%+v): %q, %d, want %q, %d", e, line, err, want, wantErr)
	}
}

// wantPrint asks for the text of events, and its error.
func wantPrint(t *testing.T, list []api.Event, want string, wantErr api.Errno) {
	t.Helper()
	if text, err := script.Print(list); text != want || err != wantErr {
		t.Errorf("P24.4: Print(%+v): %q, %d, want %q, %d", list, text, err, want, wantErr)
	}
}

// TestPieceBytes has every byte alone, between others, and every two.
func TestPieceBytes(t *testing.T) {
	for a := range 256 {
		one := string([]byte{byte(a)})
		wantPiece(t, one, plainPiece(one))
		wantPiece(t, "a"+one+"\\", "a"+plainPiece(one)+`\\`)
		for b := range 256 {
			two := string([]byte{byte(a), byte(b)})
			wantPiece(t, two, plainPiece(two))
		}
	}
}

func TestPieceWrittenDown(t *testing.T) {
	wantPiece(t, "", "")
	wantPiece(t, " ", " ")
	wantPiece(t, "\x00\x01\x08\x0b\x0c\x0e\x1a\x1c\x1f", `\x00\x01\x08\x0b\x0c\x0e\x1a\x1c\x1f`)
	wantPiece(t, "\n\r\t\x1b\\", `\n\r\t\e\\`)
	wantPiece(t, "\x1f !~\x7f", `\x1f !~\x7f`)
	wantPiece(t, "[\\]", `[\\]`)
	wantPiece(t, "nrtex#\"'`/", "nrtex#\"'`/")
	wantPiece(t, "\x80\x9a\xa9\xfe\xff", `\x80\x9a\xa9\xfe\xff`)
	wantPiece(t, "\u00e9\u4e00\U0001F600", `\xc3\xa9\xe4\xb8\x80\xf0\x9f\x98\x80`)
	wantPiece(t, `\x41`, `\\x41`)
	wantPiece(t, strings.Repeat("a\xff", 40000), strings.Repeat(`a\xff`, 40000))
}

// TestLineKinds has every kind, with its own fields at their edges and the others set.
func TestLineKinds(t *testing.T) {
	for _, kind := range []api.EventKind{math.MinInt, -1, 0, 1, 2, 3, 4, 5, 1 << 32, math.MaxInt} {
		for _, bytes := range []string{"", "a", "a\\\n\xff "} {
			for _, width := range []int{math.MinInt, -80, -1, 0, 1, 2, 9, 10, 80, 9999, 65534, 65535, 65536, 65537, 131072, 1<<32 + 1, math.MaxInt} {
				for _, to := range []api.Kind{math.MinInt, -1, 0, 1, 2, 3, 4, 1<<32 + 1, math.MaxInt} {
					e := api.Event{Kind: kind, Bytes: bytes, Width: width, To: to}
					line, err := plainLine(e)
					wantLine(t, e, line, err)
				}
			}
		}
	}
}

func TestLineWrittenDown(t *testing.T) {
	wantLine(t, api.Event{}, "", api.ErrKind)
	wantLine(t, api.Event{Kind: 4, Bytes: "a", Width: 8, To: api.KindGap}, "", api.ErrKind)
	wantLine(t, api.Event{Kind: -1}, "", api.ErrKind)
	wantLine(t, typed(""), "type ", api.OK)
	wantLine(t, typed("#"), "type #", api.OK)
	wantLine(t, typed("a\nb"), `type a\nb`, api.OK)
	wantLine(t, api.Event{Kind: api.EventBytes, Bytes: "a", Width: -1, To: 9}, "type a", api.OK)
	wantLine(t, resized(0), "", api.ErrRange)
	wantLine(t, resized(-1), "", api.ErrRange)
	wantLine(t, resized(1), "width 1", api.OK)
	wantLine(t, resized(api.MostWidth), "width 65535", api.OK)
	wantLine(t, resized(api.MostWidth+1), "", api.ErrRange)
	wantLine(t, api.Event{Kind: api.EventResize, Bytes: "x", Width: 7, To: 9}, "width 7", api.OK)
	wantLine(t, api.Event{Kind: api.EventResize, Bytes: "x", Width: 65536, To: 1}, "", api.ErrRange)
	wantLine(t, switched(api.KindGap), "store gap", api.OK)
	wantLine(t, switched(api.KindRope), "store rope", api.OK)
	wantLine(t, switched(api.KindHybrid), "", api.ErrKind)
	wantLine(t, switched(0), "", api.ErrKind)
	wantLine(t, switched(4), "", api.ErrKind)
	wantLine(t, api.Event{Kind: api.EventSwitch, Bytes: "x", Width: 65536, To: api.KindRope}, "store rope", api.OK)
}

// TestLineWidths has the line of every width.
func TestLineWidths(t *testing.T) {
	for width := -10; width < 70000; width++ {
		line, err := plainLine(resized(width))
		wantLine(t, resized(width), line, err)
	}
}

func TestPrintWrittenDown(t *testing.T) {
	wantPrint(t, nil, "", api.OK)
	wantPrint(t, []api.Event{}, "", api.OK)
	wantPrint(t, []api.Event{typed("")}, "type \n", api.OK)
	wantPrint(t, []api.Event{typed("a"), resized(8), switched(api.KindRope)}, "type a\nwidth 8\nstore rope\n", api.OK)
	wantPrint(t, []api.Event{resized(8), resized(8), typed("\n#")}, "width 8\nwidth 8\ntype \\n#\n", api.OK)
	range0, kind := resized(0), switched(api.KindHybrid)
	wantPrint(t, []api.Event{range0}, "", api.ErrRange)
	wantPrint(t, []api.Event{kind}, "", api.ErrKind)
	wantPrint(t, []api.Event{range0, typed("a"), kind}, "", api.ErrRange)
	wantPrint(t, []api.Event{kind, typed("a"), range0}, "", api.ErrKind)
	wantPrint(t, []api.Event{typed("a"), range0, kind, typed("b")}, "", api.ErrRange)
	wantPrint(t, []api.Event{typed("a"), {}, range0, typed("b")}, "", api.ErrKind)
	wantPrint(t, []api.Event{typed("a"), resized(1), range0}, "", api.ErrRange)
	wantPrint(t, []api.Event{typed("a"), resized(1), {Kind: 4}}, "", api.ErrKind)
}

// someEvents has events with a line, each kind with fields that it doesn't use.
func someEvents() []api.Event {
	return []api.Event{
		typed(""), typed("a"), typed("#"), typed(" a "), typed("a\nb\r\t\x1b\\"), typed("\x00\x7f\x80\xff\u4e00"), typed("width 8"),
		{Kind: api.EventBytes, Bytes: "x", Width: 70000, To: 5},
		resized(1), resized(80), resized(api.MostWidth), {Kind: api.EventResize, Bytes: "x", Width: 7, To: api.KindGap},
		switched(api.KindGap), switched(api.KindRope), {Kind: api.EventSwitch, Bytes: "x", Width: 8, To: api.KindGap},
	}
}

// wrongEvents has events without a line.
func wrongEvents() []api.Event {
	return []api.Event{{}, {Kind: 4, Bytes: "a"}, resized(0), resized(-1), resized(65536), switched(0), switched(api.KindHybrid), {Kind: -1, Width: 8, To: api.KindGap}}
}

// wantBoth asks for the plain text of the events; and for the same events and the same text when it is read and printed again.
func wantBoth(t *testing.T, list []api.Event) {
	t.Helper()
	text, err := plainPrint(list)
	wantPrint(t, list, text, err)
	if err != api.OK {
		return
	}
	var events []api.Event
	for _, e := range list {
		events = append(events, bare(e))
	}
	read, _, err := script.Read(text)
	if !slices.Equal(read, events) || err != api.OK {
		t.Fatalf("P24.5: Read of Print(%+v): %+v, %d", list, read, err)
	}
	if again, err := script.Print(read); again != text || err != api.OK {
		t.Fatalf("P24.5: Print of Read(%q): %q, %d", text, again, err)
	}
}

// TestPrintAndRead prints all lists of up to three events, and long ones, with and without such as have no line.
func TestPrintAndRead(t *testing.T) {
	all := append(someEvents(), wrongEvents()...)
	for _, a := range all {
		wantBoth(t, []api.Event{a})
		for _, b := range all {
			wantBoth(t, []api.Event{a, b})
			for _, c := range all {
				wantBoth(t, []api.Event{a, b, c})
			}
		}
	}
	for seed := range 2000 {
		next := numbers(uint64(seed) + 1)
		list := make([]api.Event, next(40))
		for i := range list {
			list[i] = someEvents()[next(len(someEvents()))]
			if list[i].Kind == api.EventBytes {
				list[i].Bytes = someBytes(next)
			}
		}
		if len(list) > 0 && seed%4 == 0 {
			list[next(len(list))] = wrongEvents()[next(len(wrongEvents()))]
		}
		wantBoth(t, list)
	}
}

// someBytes answers a text of any bytes.
func someBytes(next func(below int) int) string {
	bytes := make([]byte, next(20))
	for i := range bytes {
		bytes[i] = byte(next(256))
	}
	return string(bytes)
}

// TestReadAndPrint reads texts, prints what they say, and reads that: the same events, and the same text when they are printed again.
func TestReadAndPrint(t *testing.T) {
	for seed := range 3000 {
		next := numbers(uint64(seed) + 1)
		lines := make([]string, next(30))
		for i := range lines {
			from := append(goodLines(), silentLines()...)
			lines[i] = from[next(len(from))]
		}
		list, _, err := script.Read(strings.Join(lines, "\n"))
		if err != api.OK {
			t.Fatalf("P24.1: Read(%q): %d", lines, err)
		}
		wantBoth(t, list)
		for _, e := range list {
			if e != bare(e) {
				t.Fatalf("P24.5: Read(%q) answers %+v, with fields that its kind doesn't use", lines, e)
			}
		}
	}
}
