package script_test

import (
	"fmt"
	"strconv"
	"strings"
	"testing"

	"bodkin/api"
	"bodkin/script"
)

// This file has the edges of reading, with their answers written down.

func TestReadNothing(t *testing.T) {
	for _, text := range []string{"", "\n", "\n\n", "\n\n\n\n\n", "#", "#\n", "\n#", "# x\n\n", "#\n#", "#\\q", "#type a", "#\xff\r\n"} {
		wantEvents(t, text)
	}
	if list, _, _ := script.Read(""); len(list) != 0 {
		t.Error("P24.1: the empty text has the events", list)
	}
}

// TestReadEnds has the last line with and without its LF, and remarks at every place.
func TestReadEnds(t *testing.T) {
	a, b := typed("a"), resized(8)
	wantEvents(t, "type a", a)
	wantEvents(t, "type a\n", a)
	wantEvents(t, "type a\n\n", a)
	wantEvents(t, "type a\nwidth 8", a, b)
	wantEvents(t, "type a\nwidth 8\n", a, b)
	wantEvents(t, "# x\ntype a\nwidth 8", a, b)
	wantEvents(t, "type a\n# x\nwidth 8", a, b)
	wantEvents(t, "type a\nwidth 8\n# x", a, b)
	wantEvents(t, "type a\nwidth 8\n# x\n", a, b)
	wantEvents(t, "\n\ntype a\n\n\n#\nwidth 8\n\n", a, b)
	wantEvents(t, "width 8\ntype a\nwidth 8\ntype a", b, a, b, a)
	wantEvents(t, "type ", typed(""))
	wantEvents(t, "type \n", typed(""))
	wantEvents(t, "type \ntype \n\ntype ", typed(""), typed(""), typed(""))
	wantEvents(t, "type #", typed("#"))
}

// TestReadNumbers has the number of the first line that isn't one, with lines of all forms around it.
func TestReadNumbers(t *testing.T) {
	wantWrong(t, "x", 1)
	wantWrong(t, "x\n", 1)
	wantWrong(t, "\nx", 2)
	wantWrong(t, "\n\n\nx\n\n", 4)
	wantWrong(t, "#\nx", 2)
	wantWrong(t, "# x\n\n#\n x\n#", 4)
	wantWrong(t, " #", 1)
	wantWrong(t, " # x\n", 1)
	wantWrong(t, " ", 1)
	wantWrong(t, "type a\nwidth 8\nx\nstore gap\n", 3)
	wantWrong(t, "type a\n\n# x\nwidth 8\nx", 5)
	wantWrong(t, "x\ny\nz", 1)
	wantWrong(t, "store gap\nx\ntype a\ny\n", 2)
	wantWrong(t, "type a\nwidth 0\nwidth 8\nstore hybrid", 2)
	wantWrong(t, "type a\r\ntype b\r\n", 1)
	wantWrong(t, "type a\n\r\ntype b", 2)
	wantWrong(t, strings.Repeat("type a\n", 70000)+"type", 70001)
	wantWrong(t, strings.Repeat("\n", 70000)+"type", 70001)
}

// TestReadBytes has every byte as a piece, and between others.
func TestReadBytes(t *testing.T) {
	for b := range 256 {
		one := string([]byte{byte(b)})
		switch {
		case b == '\n':
			wantEvents(t, "type "+one, typed(""))
			wantEvents(t, "type a"+one+"type b", typed("a"), typed("b"))
			wantWrong(t, "type a"+one+"b", 2)
		case b < 0x20 || b > 0x7E || b == '\\':
			wantWrong(t, "type "+one, 1)
			wantWrong(t, "type a"+one+" ", 1)
			wantWrong(t, "type "+one+"\n", 1)
		default:
			wantEvents(t, "type "+one, typed(one))
			wantEvents(t, "type a"+one+"b", typed("a"+one+"b"))
			wantEvents(t, "type "+one+one+"\n", typed(one+one))
		}
	}
	wantEvents(t, "type  ", typed(" "))
	wantEvents(t, "type   a  ", typed("  a  "))
}

// TestReadLetters has a backslash at the line's end, and ahead of each byte.
func TestReadLetters(t *testing.T) {
	meant := map[int]string{'\\': "\\", 'n': "\n", 'r': "\r", 't': "\t", 'e': "\x1b"}
	for b := range 256 {
		written := `\` + string([]byte{byte(b)})
		if bytes, ok := meant[b]; ok {
			wantEvents(t, "type "+written, typed(bytes))
			wantEvents(t, "type a"+written+"b"+written, typed("a"+bytes+"b"+bytes))
			wantWrong(t, "type "+written+`\`, 1)
			continue
		}
		wantWrong(t, "type "+written, 1)
		wantWrong(t, "type a"+written+"\n", 1)
		wantWrong(t, "type "+written+"  \n", 1)
	}
	wantWrong(t, `type \`, 1)
	wantWrong(t, "type \\\ntype n", 1)
	wantWrong(t, "type a\\\n", 1)
	wantEvents(t, `type \\n`, typed(`\n`))
	wantEvents(t, `type \\\n`, typed("\\\n"))
	wantEvents(t, `type \\x41`, typed(`\x41`))
}

// TestReadDigits has \x with every two bytes behind it, and with fewer.
func TestReadDigits(t *testing.T) {
	for high := range 256 {
		for low := range 256 {
			two := string([]byte{byte(high), byte(low)})
			number, err := strconv.ParseUint(two, 16, 8)
			if err != nil || strings.ToLower(two) != two {
				if high == '\n' {
					wantWrong(t, `type \x`+two, 1)
					continue
				}
				wantWrong(t, `type a\x`+two+"00", 1)
				continue
			}
			bytes := string([]byte{byte(number)})
			wantEvents(t, `type \x`+two, typed(bytes))
			wantEvents(t, `type \x`+two+"0\n", typed(bytes+"0"))
		}
	}
	for b := range 256 {
		wantWrong(t, `type \x`+string([]byte{byte(b)}), 1)
	}
	wantWrong(t, `type \x`, 1)
	wantWrong(t, "type \\x\n41", 1)
	wantWrong(t, "type \\x4\n1", 1)
	wantWrong(t, `type \X41`, 1)
	// What has a shorter name is read all the same.
	wantEvents(t, `type \x41\x0a\x5c\x0d\x09\x1b\x20\x7e`, typed("A\n\\\r\t\x1b ~"))
}

// TestReadWidths has every number from 0 to above MostWidth, and what is no number.
func TestReadWidths(t *testing.T) {
	for width := range 120000 {
		line := fmt.Sprint("width ", width)
		if width >= 1 && width <= 65535 {
			wantEvents(t, line, resized(width))
			continue
		}
		wantWrong(t, line, 1)
	}
	for _, digits := range []string{
		"", " ", "0", "00", "01", "08", "08\n", "00001", "000001", "065535", "65536", "99999", "100000", "655350", "4294967297", "18446744073709551617", "18446744073709551617000001", strings.Repeat("9", 5000), strings.Repeat("0", 5000) + "1",
		"+1", "-1", "-0", " 1", "1 ", "1\t", "1\r", "1 2", "1.", "1.0", "1e3", "1_0", "0x10", "a", "1a", "a1", "1#", "#", "\uff11", "\u0661", "9\xff", "1\x00",
	} {
		wantWrong(t, "width "+digits, 1)
	}
	wantEvents(t, "width 1", resized(1))
	wantEvents(t, "width 9", resized(9))
	wantEvents(t, "width 10", resized(10))
	wantEvents(t, "width 65535\n", resized(api.MostWidth))
}

// TestReadStores has the two stores that can be named, and what is near them.
func TestReadStores(t *testing.T) {
	wantEvents(t, "store gap", switched(api.KindGap))
	wantEvents(t, "store rope\n", switched(api.KindRope))
	wantEvents(t, "store rope\nstore gap", switched(api.KindRope), switched(api.KindGap))
	for _, word := range []string{"", " ", "hybrid", "Gap", "GAP", "gaP", "Rope", "ROPE", " gap", "gap ", "  rope", "rope ", "ga", "ap", "gapp", "gaps", "rop", "ope", "ropes", "rrope", "gap rope", "gaprope", "gap\r", "rope\t", "gap#", "1", "2", "3", "\"gap\"", "g\\x61p"} {
		wantWrong(t, "store "+word, 1)
	}
}

// TestReadWords has words that are none.
func TestReadWords(t *testing.T) {
	for word, rest := range map[string]string{"type": "a", "width": "8", "store": "gap"} {
		for to := range len(word) {
			wantWrong(t, word[:to]+" "+rest, 1)
			wantWrong(t, word[to+1:]+" "+rest, 1)
			if to > 0 {
				wantWrong(t, word[:to], 1)
			}
			wantWrong(t, word[:to]+strings.ToUpper(word[to:to+1])+word[to+1:]+" "+rest, 1)
		}
		for _, line := range []string{word, word + rest, strings.ToUpper(word) + " " + rest, " " + word + " " + rest, "\t" + word + " " + rest, word + "\t" + rest, word + "\r" + rest, word + "\x00" + rest, word + "\u00a0" + rest, word + word + " " + rest, word + "s " + rest, "\xef\xbb\xbf" + word + " " + rest, rest, rest + " " + word} {
			wantWrong(t, line, 1)
			wantWrong(t, "type a\n"+line+"\nwidth 8", 2)
		}
	}
	wantWrong(t, "type\n a", 1)
	wantWrong(t, "resize 8", 1)
	wantWrong(t, "switch gap", 1)
}
