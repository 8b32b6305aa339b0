package bind_test

import (
	"slices"
	"testing"
	"unsafe"

	"bodkin/api"
	"bodkin/bind"
)

// states has for each way in which something waits, or nothing, the keys that lead there.
func states() [][]api.Key {
	list := [][]api.Key{nil, {char('x')}, {ctrl('G')}}
	for _, digits := range []string{"", "0", "5", "12", "1000", "99999"} {
		count := counted(digits, "-")
		list = append(list, count)
		for _, p := range thePrefixes {
			list = append(list, append(slices.Clone(count), p.key))
		}
	}
	return list
}

// led answers a binder that was given the keys.
func led(keys []api.Key) *bind.Binder {
	b := bind.New()
	for _, k := range keys {
		b.Key(k)
	}
	return b
}

func TestNewAndZero(t *testing.T) {
	b := bind.New()
	if b == nil || waits(b) != nothing {
		t.Fatal("P19.2: something waits for a new binder")
	}
	var zero bind.Binder
	if waits(&zero) != nothing || waits(zero.Clone()) != nothing {
		t.Error("P19.3: something waits for the zero Binder")
	}
	zero.Reset()
	for i, k := range mixed(5, 20000) {
		got, ok := zero.Key(k)
		want, wantOK := b.Key(k)
		if got != want || ok != wantOK || waits(&zero) != waits(b) {
			t.Fatalf("P19.3: the zero Binder: key %d: %v, %v, not %v, %v", i, got, ok, want, wantOK)
		}
	}
}

func TestNil(t *testing.T) {
	var b *bind.Binder
	for _, k := range append(allKeys(), mixed(1, 1000)...) {
		if c, ok := b.Key(k); ok || c != (api.Command{}) {
			t.Fatalf("P19.3: a nil binder makes %v of %v", c, k)
		}
		if waits(b) != nothing {
			t.Fatalf("P19.3: %v waits for a nil binder", waits(b))
		}
	}
	b.Reset()
	if b.Clone() != nil {
		t.Error("P19.3: a clone of nil is not nil")
	}
}

func TestReset(t *testing.T) {
	for _, keys := range states() {
		for _, k := range someKeys {
			b := led(keys)
			b.Reset()
			if waits(b) != nothing {
				t.Fatalf("P19.3: behind %v and Reset %v waits", keys, waits(b))
			}
			b.Reset()
			c, ok := b.Key(k)
			if want, wantOK := bind.Single(k); c != want || ok != wantOK {
				t.Fatalf("P19.3: behind %v and Reset %v makes %v, %v, want %v", keys, k, c, ok, want)
			}
		}
	}
}

// TestClones gives a binder and its clones, for which the same waits, different keys in turn.
func TestClones(t *testing.T) {
	for n, keys := range states() {
		b := led(keys)
		c := b.Clone()
		clones := []*bind.Binder{b, c, c.Clone()}
		for i, one := range clones {
			if waits(one) != waits(led(keys)) || slices.Index(clones, one) != i {
				t.Fatalf("P19.3: behind %v %v waits for clone %d", keys, waits(one), i)
			}
		}
		var behind [3][]api.Key
		for i := range behind {
			behind[i] = mixed(uint64(100*n+i), 30)
		}
		others := [3]*bind.Binder{led(keys), led(keys), led(keys)}
		for at := range behind[0] {
			for i, one := range clones {
				got, ok := one.Key(behind[i][at])
				want, wantOK := others[i].Key(behind[i][at])
				if got != want || ok != wantOK || waits(one) != waits(others[i]) {
					t.Fatalf("P19.3: behind %v clone %d makes %v, %v of %v, want %v, %v", keys, i, got, ok, behind[i][at], want, wantOK)
				}
			}
		}
	}
}

// TestResetOfOneClone has a Reset that the other one doesn't see.
func TestResetOfOneClone(t *testing.T) {
	for _, keys := range states() {
		b := led(keys)
		c, before := b.Clone(), waits(b)
		b.Reset()
		if waits(c) != before {
			t.Errorf("P19.3: behind %v the binder's Reset is seen in its clone: %v waits", keys, waits(c))
		}
		b = c.Clone()
		c.Reset()
		if waits(b) != before {
			t.Errorf("P19.3: behind %v the clone's Reset is seen in the binder: %v waits", keys, waits(b))
		}
	}
}

func TestCommandsOfNone(t *testing.T) {
	if got := bind.Commands(); len(got) != 0 {
		t.Errorf("P19.5: Commands of no keys: %v", got)
	}
	if got := bind.Commands([]api.Key{}...); len(got) != 0 {
		t.Errorf("P19.5: Commands of an empty list: %v", got)
	}
	for _, keys := range states()[3:] {
		if got := bind.Commands(keys...); len(got) != 0 {
			t.Errorf("P19.5: Commands of %v, which only wait: %v", keys, got)
		}
		// What waited at the end of one call isn't there in the next.
		want(t, "P19.5", of(char('u'), char('5')), insert("u"), insert("5"))
	}
}

// TestAnswersAreNew writes over what was answered, and looks at what was handed in.
func TestAnswersAreNew(t *testing.T) {
	keys := mixed(8, 500)
	room := append(slices.Clone(keys), mixed(9, 20)...)
	kept := slices.Clone(room)
	made, _ := plainly(keys)
	for range 3 {
		got := bind.Commands(room[:len(keys)]...)
		if !slices.Equal(got, made) {
			t.Fatal("R3: Commands goes by what was written over")
		}
		got = got[:cap(got)]
		for i := range got {
			got[i] = api.Command{Kind: api.DoYank, Count: 77, Text: "spoiled", Mark: 'x'}
		}
		if !slices.Equal(room, kept) {
			t.Fatal("R3: Commands writes over its keys")
		}
	}
}

// TestTextsAreCopies writes over the bytes of the texts that were handed in.
func TestTextsAreCopies(t *testing.T) {
	for _, kind := range []api.KeyKind{api.KeyPaste, api.KeyBad} {
		room := []byte("\xff pasted")
		k := api.Key{Kind: kind, Text: unsafe.String(unsafe.SliceData(room), len(room))}
		want := string(room)
		b := bind.New()
		one, _ := b.Key(k)
		single, _ := bind.Single(k)
		all := bind.Commands(k, k)
		if kind == api.KeyBad {
			b.Key(ctrl('Q'))
			quoted, _ := b.Key(k)
			all = append(all, quoted)
		}
		for i := range room {
			room[i] = '#'
		}
		for _, c := range append(all, one, single) {
			if c.Text != want {
				t.Errorf("R3: a command keeps the text of its key: %q", c.Text)
			}
		}
	}
}
