package script_test

import (
	"slices"
	"strings"
	"testing"

	"bodkin/api"
	"bodkin/script"
)

// numbers answers a function that answers numbers from 0 up to below, the same ones for the same seed.
func numbers(seed uint64) func(below int) int {
	state := seed*2862933555777941757 + 3037000493
	return func(below int) int {
		state ^= state << 13
		state ^= state >> 7
		state ^= state << 17
		return int(state % uint64(below))
	}
}

// wantRead asks for what the plain answer to a text is.
func wantRead(t *testing.T, text string) {
	t.Helper()
	list, number, err := script.Read(text)
	wantList, wantNumber, wantErr := plainRead(text)
	if !slices.Equal(list, wantList) || number != wantNumber || err != wantErr {
		t.Fatalf("P24.1: Read(%q): %v, %d, %d, want %v, %d, %d", text, list, number, err, wantList, wantNumber, wantErr)
	}
}

// wantEvents asks for the events of a text.
func wantEvents(t *testing.T, text string, events ...api.Event) {
	t.Helper()
	if list, number, err := script.Read(text); !slices.Equal(list, events) || number != 0 || err != api.OK {
		t.Errorf("P24.1: Read(%q): %v, %d, %d, want %v, 0, 0", text, list, number, err, events)
	}
}

// wantWrong asks for no events, as the line with the number isn't one.
func wantWrong(t *testing.T, text string, line int) {
	t.Helper()
	if list, number, err := script.Read(text); len(list) != 0 || number != line || err != api.ErrScript {
		t.Errorf("P24.1: Read(%q): %v, %d, %d, want none, %d, %d", text, list, number, err, line, api.ErrScript)
	}
}

// goodLines says something, each of them.
func goodLines() []string {
	return []string{
		"type ", "type a", "type  a b ", "type #", `type \\`, `type \n\r\t\e`, `type a\x00\e[A`, `type \x41\x0a\x5c\xff~`, "type type x", "type width 8",
		"width 1", "width 9", "width 10", "width 80", "width 65535", "store gap", "store rope",
	}
}

// silentLines say nothing.
func silentLines() []string {
	return []string{"", "#", "# x", "#\r", "##", "#type a", "#\x00\xff\\q", "# width 0"}
}

// wrongLines are none.
func wrongLines() []string {
	return []string{
		" ", " #", "\t", "\r", "x", "\\", "type", "typ a", "types a", "Type a", "TYPE a", " type a", "type\ta", "type\ra", "type a\r", "type \\", `type a\q`, `type \x`, `type \x7`, `type \xA0`, `type \x0g`, "type \x7f", "type \xe9", "type a\t", "type \u00e9",
		"width", "width ", "width 0", "width 08", "width 65536", "width 99999", "width 100000", "width  8", "width 8 ", "width +8", "width -8", "width 8\r", "widths 8", "Width 8", "width\t8", "width 0x8", "width 1_0", "width 8.0",
		"store", "store ", "store hybrid", "store  gap", "store gap ", "store gaps", "store ga", "store Gap", "store ROPE", "store ropes", "store rop", "store\tgap", "Store gap", "store gap rope", "store 1",
	}
}

// TestReadFewLines reads all texts of up to three lines of every form, with and without the last LF.
func TestReadFewLines(t *testing.T) {
	lines := slices.Concat(goodLines(), silentLines(), wrongLines())
	for _, a := range lines {
		wantRead(t, a)
		wantRead(t, a+"\n")
		for _, b := range lines {
			wantRead(t, a+"\n"+b)
			wantRead(t, a+"\n"+b+"\n")
		}
	}
	few := slices.Concat(goodLines()[5:13], silentLines()[:3], wrongLines()[:7])
	for _, a := range few {
		for _, b := range few {
			for _, c := range few {
				wantRead(t, a+"\n"+b+"\n"+c)
				wantRead(t, a+"\n"+b+"\n"+c+"\n")
			}
		}
	}
}

// TestReadManyLines reads long texts, of which one in three has a line that is none, or several.
func TestReadManyLines(t *testing.T) {
	for seed := range 3000 {
		next := numbers(uint64(seed) + 1)
		good, silent, wrong := goodLines(), silentLines(), wrongLines()
		var lines []string
		for range next(60) {
			switch next(3) {
			case 0:
				lines = append(lines, silent[next(len(silent))])
			default:
				lines = append(lines, good[next(len(good))])
			}
		}
		if seed%3 == 0 {
			for range 1 + next(3) {
				lines = slices.Insert(lines, next(len(lines)+1), wrong[next(len(wrong))])
			}
		}
		wantRead(t, strings.Join(lines, "\n"))
		wantRead(t, strings.Join(lines, "\n")+"\n")
	}
}

// TestReadAnyBytes reads texts of bytes that lines are made of, in any order.
func TestReadAnyBytes(t *testing.T) {
	const bytes = "type width store gap rope 0123456789abcdef\\\\\\\\xxnrte##\n\n\n\n\r\t\x00\x1b\x7f\x80\xff"
	for seed := range 20000 {
		next := numbers(uint64(seed) + 1)
		text := []byte([]string{"", "type ", "width ", "store ", "width 80\ntype a", "#"}[next(6)])
		for range next(12) {
			text = append(text, bytes[next(len(bytes))])
		}
		wantRead(t, string(text))
	}
}

// TestReadNear reads each line with one byte more, one less, and another one, at each of its places.
func TestReadNear(t *testing.T) {
	for _, line := range []string{"type ", "type a", `type \\b`, `type \x4f`, `type \n`, "width 80", "width 65535", "store gap", "store rope", "# x", ""} {
		for at := range len(line) + 1 {
			if at < len(line) {
				wantRead(t, line[:at]+line[at+1:])
			}
			for b := range 256 {
				one := string([]byte{byte(b)})
				wantRead(t, line[:at]+one+line[at:])
				if at < len(line) {
					wantRead(t, line[:at]+one+line[at+1:])
				}
			}
		}
	}
}

// TestReadFewBytes reads all short texts behind the three words' beginnings.
func TestReadFewBytes(t *testing.T) {
	for word, bytes := range map[string]string{"": "#\n type", "type ": "\\x0fgnA #\n", "width ": "0156 \n-", "width 6553": "0123456789\n", "store ": "gaproe \n"} {
		texts := []string{word}
		for range 5 {
			var longer []string
			for _, text := range texts {
				wantRead(t, text)
				for _, b := range []byte(bytes) {
					longer = append(longer, text+string(rune(b)))
				}
			}
			texts = longer
		}
	}
}
