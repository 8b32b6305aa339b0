package keys

import (
	"strconv"
	"strings"

	"bodkin/api"
)

// The bits of a sequence's second number, less 1.
const (
	shiftBit = 1
	metaBit  = 2
	ctrlBit  = 4
)

// sequence is a row of the table of CSI sequences: the end and the first number, and the key that they mean.
type sequence struct {
	end    byte
	number int
	kind   api.KeyKind
	char   rune
}

// sequences has of each key the sequence first that Bytes writes.
var sequences = [...]sequence{
	{'A', 1, api.KeyUp, 0},
	{'B', 1, api.KeyDown, 0},
	{'C', 1, api.KeyRight, 0},
	{'D', 1, api.KeyLeft, 0},
	{'H', 1, api.KeyHome, 0},
	{'F', 1, api.KeyEnd, 0},
	{'P', 1, api.KeyF, 1},
	{'Q', 1, api.KeyF, 2},
	{'R', 1, api.KeyF, 3},
	{'S', 1, api.KeyF, 4},
	{'Z', 1, api.KeyTab, 0},
	{'~', 1, api.KeyHome, 0},
	{'~', 2, api.KeyInsert, 0},
	{'~', 3, api.KeyDelete, 0},
	{'~', 4, api.KeyEnd, 0},
	{'~', 5, api.KeyPageUp, 0},
	{'~', 6, api.KeyPageDown, 0},
	{'~', 7, api.KeyHome, 0},
	{'~', 8, api.KeyEnd, 0},
	{'~', 11, api.KeyF, 1},
	{'~', 12, api.KeyF, 2},
	{'~', 13, api.KeyF, 3},
	{'~', 14, api.KeyF, 4},
	{'~', 15, api.KeyF, 5},
	{'~', 17, api.KeyF, 6},
	{'~', 18, api.KeyF, 7},
	{'~', 19, api.KeyF, 8},
	{'~', 20, api.KeyF, 9},
	{'~', 21, api.KeyF, 10},
	{'~', 23, api.KeyF, 11},
	{'~', 24, api.KeyF, 12},
}

// meant answers the row of that end and number, and whether there is one.
func meant(end byte, number int) (sequence, bool) {
	for _, row := range sequences {
		if row.end == end && row.number == number {
			return row, true
		}
	}
	return sequence{}, false
}

// csiKey answers the key of a whole CSI sequence that begins no paste.
func csiKey(text string) api.Key {
	last := len(text) - 1
	number, second, ok := numbers(text[len("\x1b["):last])
	if !ok || second < 1 || second > 8 {
		return unknown(text)
	}
	row, ok := meant(text[last], number)
	if !ok {
		return unknown(text)
	}
	bits := second - 1
	return api.Key{
		Kind:  row.kind,
		Char:  row.char,
		Ctrl:  bits&ctrlBit != 0,
		Meta:  bits&metaBit != 0,
		Shift: bits&shiftBit != 0 || row.kind == api.KeyTab,
	}
}

// ss3Key answers the key of a whole SS3 sequence.
func ss3Key(text string) api.Key {
	end := text[len("\x1bO")]
	row, ok := meant(end, 1)
	if !ok || end == '~' || end == 'Z' {
		return unknown(text)
	}
	return api.Key{Kind: row.kind, Char: row.char}
}

// unknown answers the key of a sequence that means nothing.
func unknown(text string) api.Key {
	return api.Key{Kind: api.KeyUnknown, Text: text}
}

// numbers answers the two numbers of a sequence's inside, each of them 1 if it isn't there, and whether the inside has that form.
func numbers(inside string) (first, second int, ok bool) {
	if inside == "" {
		return 1, 1, true
	}
	one, other, both := strings.Cut(inside, ";")
	if !both {
		other = "1"
	}
	first, ok = number(one)
	if !ok {
		return 0, 0, false
	}
	second, ok = number(other)
	return first, second, ok
}

// number answers the number that one to three digits tell.
func number(digits string) (int, bool) {
	if digits == "" || len(digits) > 3 {
		return 0, false
	}
	n := 0
	for i := range len(digits) {
		if digits[i] < '0' || digits[i] > '9' {
			return 0, false
		}
		n = n*10 + int(digits[i]-'0')
	}
	return n, true
}

// sequenceOf answers the sequence that is written for the named key or function key k, or nothing.
func sequenceOf(k api.Key) string {
	for _, row := range sequences {
		if row.kind == k.Kind && row.char == k.Char {
			return row.written(k)
		}
	}
	return ""
}

// written answers the row's sequence with the modifiers of k.
func (row sequence) written(k api.Key) string {
	first := ""
	if row.end == '~' {
		first = strconv.Itoa(row.number)
	}
	second := secondNumber(k)
	unsaid := 1
	if row.kind == api.KeyTab {
		// Its Shift needn't be said.
		unsaid += shiftBit
	}
	if second != unsaid {
		first = strconv.Itoa(row.number) + ";" + strconv.Itoa(second)
	}
	return "\x1b[" + first + string(rune(row.end))
}

// secondNumber answers the number that tells the modifiers of k.
func secondNumber(k api.Key) int {
	n := 1
	if k.Shift {
		n += shiftBit
	}
	if k.Meta {
		n += metaBit
	}
	if k.Ctrl {
		n += ctrlBit
	}
	return n
}
