package bind_test

import (
	"slices"
	"testing"

	"bodkin/api"
	"bodkin/bind"
)

// waits answers what waits for b.
func waits(b *bind.Binder) waiting {
	n, ok := b.Count()
	return waiting{b.Prefix(), n, ok}
}

// lookAt gives the list to a binder for which nothing waits, key by key, and holds what it answers and what waits behind each key against the plain answer; and so with Commands.
func lookAt(t *testing.T, list ...api.Key) {
	t.Helper()
	b := bind.New()
	told := 0
	for i, k := range list {
		want, wait := plainly(list[:i+1])
		c, ok := b.Key(k)
		switch {
		case len(want)-told > 1:
			t.Fatalf("%v: the plain answer makes several commands of key %d", list, i)
		case len(want) == told && (ok || c != api.Command{}):
			t.Fatalf("P19.1: %v: key %d makes %v, %v, and should wait", list, i, c, ok)
		case len(want) > told && (!ok || c != want[told]):
			t.Fatalf("P19.1, P19.6: %v: key %d makes %v, %v, want %v", list, i, c, ok, want[told])
		}
		if ok && waits(b) != nothing {
			t.Fatalf("P19.1: %v: %v waits behind the command of key %d", list, waits(b), i)
		}
		if waits(b) != wait {
			t.Fatalf("P19.2: %v: behind key %d %v waits, want %v", list, i, waits(b), wait)
		}
		told = len(want)
	}
	want, _ := plainly(list)
	if got := bind.Commands(list...); !slices.Equal(got, want) {
		t.Fatalf("P19.5: %v: %v, want %v", list, got, want)
	}
}

// every calls look with each list of at most most of the keys.
func every(keys []api.Key, most int, look func([]api.Key)) {
	var grow func(list []api.Key, most int)
	grow = func(list []api.Key, most int) {
		look(list)
		for _, k := range keys {
			if most > 0 {
				grow(append(list[:len(list):len(list)], k), most-1)
			}
		}
	}
	grow(nil, most)
}

// someKeys has keys of each row of the chapter's tables in which rows are told apart, and keys beside these.
var someKeys = []api.Key{
	char('x'), char('u'), char('a'), char('@'), char('A'), char('0'), char('5'), char(0x4E00), char(0xD800), withCtrl(char('5')), withCtrl(char('u')), bad("\xff"), bad(""), meta(bad("\xff")),
	ctrl('A'), ctrl('G'), ctrl('I'), ctrl('@'), ctrl('?'), ctrl('Q'), ctrl('X'), ctrl('C'), ctrl('a'), meta(ctrl('G')), meta(ctrl('H')), meta(ctrl('X')), meta(ctrl('Q')),
	meta(char('b')), meta(char('m')), meta(char('\'')), meta(char('0')), meta(char('7')), meta(char('z')), meta(withCtrl(char('7'))), meta(withCtrl(char('m'))),
	named(api.KeyEsc), named(api.KeyUp), withCtrl(named(api.KeyUp)), named(api.KeyPageUp), meta(named(api.KeyPageUp)), named(api.KeyTab), paste("a\nb"), {},
}

// TestShortLists has all lists of few keys.
func TestShortLists(t *testing.T) {
	look := func(list []api.Key) { lookAt(t, list...) }
	every(someKeys, 3, look)
	every([]api.Key{meta(char('0')), char('0'), char('9'), ctrl('X'), ctrl('Q'), ctrl('G'), char('u'), meta(char('m'))}, 5, look)
	every([]api.Key{meta(char('1')), char('0'), ctrl('F')}, 8, look)
}

// numbers answers numbers that look mixed, the same ones at each run.
func numbers(seed uint64) func(below int) int {
	return func(below int) int {
		seed = seed*6364136223846793005 + 1442695040888963407
		return int(seed>>33) % below
	}
}

// mixed answers a list of n keys of all kinds, prefixes and digits more often than others.
func mixed(seed uint64, n int) []api.Key {
	next := numbers(seed)
	var list []api.Key
	for range n {
		k := someKeys[next(len(someKeys))]
		switch next(4) {
		case 0:
			k = api.Key{Kind: api.KeyKind(next(21)), Char: rune(next(130)), Ctrl: next(3) == 0, Meta: next(2) == 0, Text: "t"}
		case 1:
			k = []api.Key{ctrl('Q'), ctrl('X'), meta(char('m')), meta(char('\''))}[next(4)]
		case 2:
			k = api.Key{Kind: api.KeyChar, Char: rune('0' + next(10)), Meta: next(2) == 0}
		}
		k.Shift = next(4) == 0
		list = append(list, k)
	}
	return list
}

// TestLongLists has mixed lists.
func TestLongLists(t *testing.T) {
	for seed := range 2000 {
		lookAt(t, mixed(uint64(seed), 1+seed%60)...)
	}
}

// TestGoingOn has one binder for many lists, which is reset now and then.
func TestGoingOn(t *testing.T) {
	b, next := bind.New(), numbers(3)
	var since []api.Key
	for _, k := range mixed(77, 50000) {
		since = append(since, k)
		want, wait := plainly(since)
		c, ok := b.Key(k)
		if ok != (len(want) == 1) || ok && c != want[0] || waits(b) != wait {
			t.Fatalf("P19.1: %v: %v, %v; %v waits", since, c, ok, waits(b))
		}
		if next(7) == 0 {
			b.Reset()
		}
		if ok || waits(b) == nothing {
			since = nil
		}
	}
}

// TestOneCommandEach counts: so many commands are made as there are keys that wait for none.
func TestOneCommandEach(t *testing.T) {
	for seed := range 500 {
		list := mixed(uint64(9000+seed), 40)
		b, waited := bind.New(), 0
		for _, k := range list {
			before := waits(b)
			if _, ok := b.Key(k); !ok {
				waited++
				if waits(b) == nothing || before.prefix != "" {
					t.Fatalf("P19.6: %v makes no command, though %v waited", k, before)
				}
			}
		}
		if got := len(bind.Commands(list...)); got != len(list)-waited {
			t.Fatalf("P19.6: %d commands of %d keys, of which %d wait", got, len(list), waited)
		}
	}
}
