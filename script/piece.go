package script

import "strings"

// A byte of named is written as a backslash and the letter of letters at the same place.
const (
	letters = `\nrte`
	named   = "\\\n\r\t\x1b"
)

// digits are those of base sixteen, each at the place that is its number.
const digits = "0123456789abcdef"

// Piece answers a piece that means the bytes.
func Piece(bytes string) string {
	var piece strings.Builder
	for i := range len(bytes) {
		b := bytes[i]
		at := strings.IndexByte(named, b)
		switch {
		case at >= 0:
			piece.WriteByte('\\')
			piece.WriteByte(letters[at])
		case plain(b):
			piece.WriteByte(b)
		default:
			piece.WriteString(`\x`)
			piece.WriteByte(digits[b>>4])
			piece.WriteByte(digits[b&15])
		}
	}
	return piece.String()
}

// unpiece answers the bytes that a piece means, and whether it is one.
func unpiece(piece string) (string, bool) {
	bytes := make([]byte, 0, len(piece))
	for at := 0; at < len(piece); {
		b, size := first(piece[at:])
		if size == 0 {
			return "", false
		}
		bytes = append(bytes, b)
		at += size
	}
	return string(bytes), true
}

// first answers the byte that the beginning of a piece means, and how many bytes mean it: 0 if they mean none.
func first(piece string) (byte, int) {
	switch {
	case plain(piece[0]):
		return piece[0], 1
	case piece[0] != '\\' || len(piece) < 2:
		return 0, 0
	case piece[1] == 'x':
		return numbered(piece)
	}
	at := strings.IndexByte(letters, piece[1])
	if at < 0 {
		return 0, 0
	}
	return named[at], 2
}

// numbered is first of a piece that begins with \x.
func numbered(piece string) (byte, int) {
	if len(piece) < 4 {
		return 0, 0
	}
	high, low := strings.IndexByte(digits, piece[2]), strings.IndexByte(digits, piece[3])
	if high < 0 || low < 0 {
		return 0, 0
	}
	return byte(high<<4 | low), 4
}

// plain tells whether a byte stands for itself in a piece.
func plain(b byte) bool {
	return b >= 0x20 && b <= 0x7e && b != '\\'
}
