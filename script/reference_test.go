package script_test

import (
	"fmt"
	"regexp"
	"strconv"
	"strings"

	"bodkin/api"
)

// This file reads and writes by the chapter's words, as patterns and tables: the other tests hold the package against it.

// What the chapter takes for a line that says something, and for one byte of a piece.
var (
	typeLine  = regexp.MustCompile(`^type ((?:[\x20-\x5b\x5d-\x7e]|\\[\\nrte]|\\x[0-9a-f]{2})*)$`)
	widthLine = regexp.MustCompile(`^width ([1-9][0-9]{0,4})$`)
	storeLine = regexp.MustCompile(`^store (gap|rope)$`)
	oneByte   = regexp.MustCompile(`\\x[0-9a-f]{2}|\\.|[^\\]`)
)

// plainRead answers what the chapter's words make of a text.
func plainRead(text string) ([]api.Event, int, api.Errno) {
	list := []api.Event{}
	for i, line := range strings.Split(text, "\n") {
		if line == "" || strings.HasPrefix(line, "#") {
			continue
		}
		e, ok := plainEvent(line)
		if !ok {
			return nil, i + 1, api.ErrScript
		}
		list = append(list, e)
	}
	return list, 0, api.OK
}

// plainEvent answers the event that a line is, and whether it is one.
func plainEvent(line string) (api.Event, bool) {
	if found := typeLine.FindStringSubmatch(line); found != nil {
		return typed(plainBytes(found[1])), true
	}
	if found := widthLine.FindStringSubmatch(line); found != nil {
		width, err := strconv.ParseUint(found[1], 10, 16)
		return resized(int(width)), err == nil
	}
	if found := storeLine.FindStringSubmatch(line); found != nil {
		return switched(map[string]api.Kind{"gap": api.KindGap, "rope": api.KindRope}[found[1]]), true
	}
	return api.Event{}, false
}

// plainBytes answers the bytes that a piece means.
func plainBytes(piece string) string {
	letters := map[string]string{`\\`: "\\", `\n`: "\n", `\r`: "\r", `\t`: "\t", `\e`: "\x1b"}
	return oneByte.ReplaceAllStringFunc(piece, func(written string) string {
		if meant, ok := letters[written]; ok {
			return meant
		}
		if strings.HasPrefix(written, `\x`) {
			number, _ := strconv.ParseUint(written[2:], 16, 8)
			return string([]byte{byte(number)})
		}
		return written
	})
}

// plainPiece answers how the chapter's words write bytes.
func plainPiece(bytes string) string {
	letters := map[byte]string{'\\': `\\`, 0x0A: `\n`, 0x0D: `\r`, 0x09: `\t`, 0x1B: `\e`}
	piece := ""
	for _, b := range []byte(bytes) {
		letter, ok := letters[b]
		switch {
		case ok:
			piece += letter
		case b < 0x20 || b > 0x7E:
			piece += fmt.Sprintf(`\x%02x`, b)
		default:
			piece += string(rune(b))
		}
	}
	return piece
}

// plainLine answers an event's line.
func plainLine(e api.Event) (string, api.Errno) {
	switch {
	case e.Kind == api.EventBytes:
		return "type " + plainPiece(e.Bytes), api.OK
	case e.Kind == api.EventResize && (e.Width <= 0 || e.Width >= 65536):
		return "", api.ErrRange
	case e.Kind == api.EventResize:
		return fmt.Sprintf("width %d", e.Width), api.OK
	case e.Kind == api.EventSwitch && e.To == api.KindGap:
		return "store gap", api.OK
	case e.Kind == api.EventSwitch && e.To == api.KindRope:
		return "store rope", api.OK
	}
	return "", api.ErrKind
}

// plainPrint answers the lines of events.
func plainPrint(list []api.Event) (string, api.Errno) {
	text := ""
	for _, e := range list {
		line, err := plainLine(e)
		if err != api.OK {
			return "", err
		}
		text += line + "\n"
	}
	return text, api.OK
}

// bare answers the event with zero in the fields that its kind doesn't use.
func bare(e api.Event) api.Event {
	switch e.Kind {
	case api.EventBytes:
		return typed(e.Bytes)
	case api.EventResize:
		return resized(e.Width)
	}
	return switched(e.To)
}

func typed(bytes string) api.Event { return api.Event{Kind: api.EventBytes, Bytes: bytes} }

func resized(width int) api.Event { return api.Event{Kind: api.EventResize, Width: width} }

func switched(to api.Kind) api.Event { return api.Event{Kind: api.EventSwitch, To: to} }
