package keys_test

import (
	"runtime"
	"slices"
	"strings"
	"testing"
	"unsafe"

	"bodkin/api"
	"bodkin/keys"
)

// beginnings are texts behind which something of each kind is held back, or nothing.
var beginnings = []string{"", "a", "\x1b", "\x1b[", "\x1bO", "\x1b[1", "\x1b[1;5", "\x1b[" + strings.Repeat("1", 29), "\xe2", "\xe2\x82", "\xf0\x9f\x98", "\x1b\xe2", "\x1b\xf0\x9f", "\x1b[200", "\x1b[200~", "\x1b[200~a", "\x1b[200~a\x1b[201"}

// ends are texts that come behind them.
var ends = []string{"", "A", "~", "\x1b", "[", "O", "1", "\x82", "\xac", "\x82\xacx", "\x07", "\xff", "\x1b[201~", "00~x\x1b[201~y"}

func TestNewAndZero(t *testing.T) {
	if d := keys.New(); d == nil || d.Held() != "" || len(d.Flush()) != 0 || len(d.Feed("")) != 0 {
		t.Error("P18.1: a new decoder holds something back")
	}
	for _, s := range beginnings {
		for _, end := range ends {
			var zero keys.Decoder
			d := keys.New()
			for _, piece := range []string{s, end} {
				if got, want := zero.Feed(piece), d.Feed(piece); !slices.Equal(got, want) || zero.Held() != d.Held() {
					t.Errorf("P18.7: the zero Decoder: %q of %q: %v, not %v", piece, s+end, got, want)
				}
			}
			if got, want := zero.Flush(), d.Flush(); !slices.Equal(got, want) || zero.Held() != "" {
				t.Errorf("P18.7: the zero Decoder: Flush behind %q: %v, not %v", s+end, got, want)
			}
		}
	}
	var zero keys.Decoder
	if len(zero.Flush()) != 0 || zero.Held() != "" || zero.Clone() == nil || zero.Clone().Held() != "" {
		t.Error("P18.7: the zero Decoder holds something back")
	}
}

func TestNil(t *testing.T) {
	var d *keys.Decoder
	for _, s := range append(beginnings, ends...) {
		if got := d.Feed(s); len(got) != 0 {
			t.Errorf("P18.7: nil: Feed(%q): %v", s, got)
		}
		if got := d.Flush(); len(got) != 0 || d.Held() != "" {
			t.Errorf("P18.7: nil: behind %q: %v, %q is held back", s, got, d.Held())
		}
	}
	if d.Clone() != nil {
		t.Error("P18.7: a clone of nil is not nil")
	}
}

// TestClones feeds a decoder and its clone, which stand behind the same bytes, with different ones.
func TestClones(t *testing.T) {
	for _, s := range beginnings {
		for _, one := range ends {
			for _, other := range ends {
				d := keys.New()
				d.Feed(s)
				c := d.Clone()
				held := d.Held()
				if c == d || c.Held() != held {
					t.Fatalf("P18.7: a clone behind %q holds %q back", s, c.Held())
				}
				clones := []*keys.Decoder{d, c, c.Clone()}
				// Byte by byte in turn, so that each writes where the others could have written.
				var got [3][]api.Key
				texts := [3]string{one, other, one + other}
				for i := range len(one) + len(other) {
					for n, text := range texts {
						if i < len(text) {
							got[n] = append(got[n], clones[n].Feed(text[i:i+1])...)
						}
					}
				}
				for n, text := range texts {
					list, rest := plainly(held + text)
					if !slices.Equal(got[n], keysOf(list)) || clones[n].Held() != rest {
						t.Fatalf("P18.7: clone %d behind %q: %q: %v, %q is held back, want %v, %q", n, s, text, got[n], clones[n].Held(), keysOf(list), rest)
					}
				}
			}
		}
	}
}

// TestFlushOfOneClone has a flush that the other one doesn't see.
func TestFlushOfOneClone(t *testing.T) {
	for _, s := range beginnings {
		d := keys.New()
		d.Feed(s)
		c, held := d.Clone(), d.Held()
		d.Flush()
		d.Feed("\x1b[200~other")
		if c.Held() != held {
			t.Errorf("P18.7: behind %q the clone holds %q back, want %q", s, c.Held(), held)
		}
		if got, want := c.Flush(), keysOf(plainRest(held)); !slices.Equal(got, want) {
			t.Errorf("P18.7: behind %q the clone's Flush: %v, want %v", s, got, want)
		}
	}
}

// spoil writes over a list and its spare room.
func spoil[T any](list []T, with T) {
	list = list[:cap(list)]
	for i := range list {
		list[i] = with
	}
}

// TestAnswersAreNew writes over what was answered.
func TestAnswersAreNew(t *testing.T) {
	s := "a\x1b[A\xff\x1b[200~text\x1b[201~b\x1b[9~\xe2\x82"
	want, held := plainly(s)
	for range 3 {
		d, other := keys.New(), unknown("spoiled")
		first := d.Feed(s)
		kept := slices.Clone(first)
		second := d.Clone().Feed("\xacx")
		spoil(second, other)
		flushed := d.Flush()
		spoil(flushed, other)
		if !slices.Equal(first, kept) || !slices.Equal(first, keysOf(want)) {
			t.Errorf("P18.7: %v became %v", kept, first)
		}
		spoil(first, other)
		if again := d.Feed(s); !slices.Equal(again, keysOf(want)) || d.Held() != held {
			t.Errorf("P18.7: behind lists that were written over: %v", again)
		}
		spoil(keys.Decode(s), other)
		spoil(keys.Split(s), "spoiled")
		if !slices.Equal(keys.Decode(s), keysOf(plainAll(s))) || !slices.Equal(keys.Split(s), bytesOf(plainAll(s))) {
			t.Error("P18.7: Decode or Split go by what was written over")
		}
	}
}

// TestTextsAreCopies writes over the bytes that were handed in.
func TestTextsAreCopies(t *testing.T) {
	const s = "\x1b[200~text\x1b[201~\x1b[19x\xff\x1b[200~held"
	list, held := plainly(s)
	all := plainAll(s)
	room := []byte(s)
	in := unsafe.String(unsafe.SliceData(room), len(room))
	d := keys.New()
	fed, decoded, pieces := d.Feed(in), keys.Decode(in), keys.Split(in)
	var written []string
	for _, k := range keys.Decode(s) {
		k.Text = in[strings.Index(s, k.Text):][:len(k.Text)]
		text, _ := keys.Bytes(k)
		written = append(written, text)
	}
	kept := d.Held()
	for i := range room {
		room[i] = '#'
	}
	if !slices.Equal(fed, keysOf(list)) || d.Held() != held || kept != held || !slices.Equal(d.Clone().Flush(), []api.Key{paste("held")}) {
		t.Errorf("P18.7: Feed keeps what it is fed with: %v, %q", fed, d.Held())
	}
	if !slices.Equal(decoded, keysOf(all)) || !slices.Equal(pieces, bytesOf(all)) {
		t.Errorf("P18.7: Decode or Split hand out what they were given: %v, %q", decoded, pieces)
	}
	for i, x := range all {
		if want, _ := plainBytes(x.key); written[i] != want {
			t.Errorf("P18.7: Bytes hands out what it was given: %q, want %q", written[i], want)
		}
	}
	// What is told of a paste that was held back doesn't change with what comes behind it.
	d.Feed(" more")
	c := d.Clone()
	told := d.Feed("\x1b[201~")
	d.Feed("\x1b[200~########################\x1b[201~")
	c.Feed("########################")
	if !slices.Equal(told, []api.Key{paste("held more")}) || kept != held {
		t.Errorf("P18.7: a paste that was told became %v", told)
	}
}

// inUse answers how many bytes of memory are in use.
func inUse() uint64 {
	runtime.GC()
	var m runtime.MemStats
	runtime.ReadMemStats(&m)
	return m.HeapAlloc
}

// TestLongPasteIsForgotten has a paste of many bytes, of which the decoder keeps none once it is told.
func TestLongPasteIsForgotten(t *testing.T) {
	const long = 1 << 24
	d, before := keys.New(), inUse()
	for i, end := range []string{"\x1b[201~", "\x1b[201~\x1b", ""} {
		if got := d.Feed("\x1b[200~" + strings.Repeat("x", long) + end); len(got)+len(d.Flush()) == 0 {
			t.Fatalf("P18.1: paste %d makes no key", i)
		}
		if more := int64(inUse()) - int64(before); more > long/4 {
			t.Errorf("P18.1: behind the long paste %d there are %d bytes more in use", i, more)
		}
	}
	runtime.KeepAlive(d)
}
