package keys

import (
	"bytes"

	"bodkin/api"
	"bodkin/unit"
)

// esc is the byte ESC.
const esc = 0x1B

// A paste lies between these.
const (
	pasteBegin = "\x1b[200~"
	pasteEnd   = "\x1b[201~"
)

// state tells what the bytes that are held back have begun.
type state int

const (
	idle        state = iota // nothing is held back
	escaped                  // ESC alone
	inCharacter              // a character, perhaps with an ESC ahead
	inCSI
	inSS3
	inPaste
)

// teller is told each key, and of how many bytes it was made.
type teller func(k api.Key, size int)

// feed reads the bytes of s.
func (d *Decoder) feed(s string, tell teller) {
	if d == nil {
		return
	}
	for i := range len(s) {
		if !d.take(s[i], tell) {
			// Nothing is held back now: the byte begins a key, and so it is taken.
			d.take(s[i], tell)
		}
	}
}

// flush takes what is held back as all that will come.
func (d *Decoder) flush(tell teller) {
	if d != nil {
		d.breakOff(tell)
	}
}

// take goes on with b behind what is held back. It answers false where that ends ahead of b: then it has been told, and b is to be read anew.
func (d *Decoder) take(b byte, tell teller) bool {
	switch d.state {
	case inPaste:
		d.takeIntoPaste(b, tell)
		return true
	case inCSI:
		return d.takeIntoCSI(b, tell)
	case inSS3:
		return d.takeIntoSS3(b, tell)
	case escaped:
		switch b {
		case esc:
			d.breakOff(tell)
			return false
		case '[':
			d.hold(b, inCSI)
			return true
		case 'O':
			d.hold(b, inSS3)
			return true
		}
		// Any other byte begins a key as it does without the ESC.
		fallthrough
	case idle:
		if b == esc {
			d.hold(b, escaped)
			return true
		}
		if b < 0x20 || b == 0x7F {
			d.hold(b, d.state)
			d.end(api.Key{Kind: api.KeyCtrl, Char: rune(b ^ 64), Ctrl: true, Meta: d.meta()}, tell)
			return true
		}
		fallthrough
	default: // inCharacter
		return d.takeIntoCharacter(b, tell)
	}
}

// takeIntoPaste goes on with a pasted text. Nothing within it is read as a key, so that b always belongs to it.
func (d *Decoder) takeIntoPaste(b byte, tell teller) {
	d.hold(b, inPaste)
	if b != '~' {
		return
	}
	if text, ended := bytes.CutSuffix(d.pasted(), []byte(pasteEnd)); ended {
		d.endPaste(text, tell)
	}
}

func (d *Decoder) takeIntoCSI(b byte, tell teller) bool {
	if b < 0x20 || b > 0x7E {
		d.breakOff(tell)
		return false
	}
	d.hold(b, inCSI)
	switch {
	case string(d.held) == pasteBegin:
		d.state = inPaste
	case b >= 0x40:
		d.end(csiKey(string(d.held)), tell)
	case len(d.held) == api.MostSequence:
		d.breakOff(tell)
	}
	return true
}

func (d *Decoder) takeIntoSS3(b byte, tell teller) bool {
	if b < 0x40 || b > 0x7E {
		d.breakOff(tell)
		return false
	}
	d.hold(b, inSS3)
	d.end(ss3Key(string(d.held)), tell)
	return true
}

func (d *Decoder) takeIntoCharacter(b byte, tell teller) bool {
	text := string(d.character()) + string([]byte{b})
	if unit.Begun(text) {
		d.hold(b, inCharacter)
		return true
	}
	u, _ := unit.At(text, 0)
	if u.Size < len(text) {
		// The bytes ahead of b begin no unit with it, nor does one behind the first of them begin any.
		d.breakOff(tell)
		return false
	}
	d.hold(b, inCharacter)
	if u.Char < 0 {
		d.breakOff(tell)
		return true
	}
	d.end(api.Key{Kind: api.KeyChar, Char: u.Char, Meta: d.meta()}, tell)
	return true
}

// breakOff tells the keys of what is held back, as nothing more belongs to it.
func (d *Decoder) breakOff(tell teller) {
	switch d.state {
	case escaped:
		d.end(api.Key{Kind: api.KeyEsc}, tell)
	case inCharacter:
		d.endBad(tell)
	case inCSI, inSS3:
		if len(d.held) > len("\x1b[") {
			d.end(unknown(string(d.held)), tell)
			return
		}
		d.end(api.Key{Kind: api.KeyChar, Char: rune(d.held[1]), Meta: true}, tell)
	case inPaste:
		d.endPaste(d.pasted(), tell)
	}
}

// hold lays b behind what is held back.
func (d *Decoder) hold(b byte, next state) {
	d.held, d.state = append(d.held, b), next
}

// end tells the key that all held bytes make; then none are held back.
func (d *Decoder) end(k api.Key, tell teller) {
	tell(k, len(d.held))
	d.held, d.state = d.held[:0], idle
}

// endPaste tells a paste. Its room is given up, as no other key needs so much.
func (d *Decoder) endPaste(text []byte, tell teller) {
	d.end(api.Key{Kind: api.KeyPaste, Text: string(text)}, tell)
	d.held = nil
}

// endBad tells each byte of a character that never became whole; an ESC ahead belongs to the first of them.
func (d *Decoder) endBad(tell teller) {
	k := api.Key{Kind: api.KeyBad, Meta: d.meta()}
	size := 1 + len(d.held) - len(d.character())
	for _, b := range d.character() {
		k.Text = string([]byte{b})
		tell(k, size)
		k.Meta, size = false, 1
	}
	d.held, d.state = d.held[:0], idle
}

// meta answers whether what is held back has an ESC ahead.
func (d *Decoder) meta() bool {
	return len(d.held) > 0 && d.held[0] == esc
}

// character answers what is held back without an ESC ahead.
func (d *Decoder) character() []byte {
	if d.meta() {
		return d.held[1:]
	}
	return d.held
}

// pasted answers what came behind a paste's beginning.
func (d *Decoder) pasted() []byte {
	return d.held[len(pasteBegin):]
}
