package bind_test

import (
	"strings"
	"testing"

	"bodkin/api"
	"bodkin/bind"
)

// counted answers the keys of a count: the first digit with Meta, and each other one with Meta where how, gone through round and round, has an M.
func counted(digits, how string) []api.Key {
	var list []api.Key
	for i, c := range digits {
		k := char(c)
		k.Meta = i == 0 || how[i%len(how)] == 'M'
		list = append(list, k)
	}
	return list
}

// theCounts has digits, and the count that they tell.
var theCounts = []struct {
	digits string
	count  int
}{
	{"0", 1}, {"1", 1}, {"2", 2}, {"9", 9}, {"00", 1}, {"01", 1}, {"007", 7}, {"10", 10}, {"12", 12}, {"21", 21}, {"100", 100}, {"123", 123}, {"909", 909}, {"999", 999}, {"1000", 1000}, {"01000", 1000}, {"0999", 999},
	{"1001", 1000}, {"1009", 1000}, {"1010", 1000}, {"1100", 1000}, {"2000", 1000}, {"9999", 1000}, {"10000", 1000}, {"10001", 1000}, {"65537", 1000}, {"99999", 1000},
	{"2147483648", 1000}, {"4294967295", 1000}, {"4294967296", 1000}, {"4294967297", 1000}, {"9223372036854775808", 1000}, {"18446744073709551615", 1000}, {"18446744073709551616", 1000}, {"18446744073709551617", 1000}, {"36893488147419103232", 1000}, {"340282366920938463463374607431768211457", 1000},
	{strings.Repeat("0", 5000), 1}, {strings.Repeat("0", 5000) + "37", 37}, {strings.Repeat("9", 5000), 1000}, {"1" + strings.Repeat("0", 5000), 1000}, {"2" + strings.Repeat("0", 5000) + "1", 1000},
}

// TestCounts has counts ahead of a plain key, of a prefix and the key behind it, and of C-g.
func TestCounts(t *testing.T) {
	for _, x := range theCounts {
		for _, how := range []string{"M", "-", "M-", "-M-"} {
			digits := counted(x.digits, how)
			behind := func(commands []api.Command, keys ...api.Key) {
				t.Helper()
				list := append(digits[:len(digits):len(digits)], keys...)
				want(t, "P19.5: a count of "+x.digits, list, commands...)
			}
			one := func(c api.Command) []api.Command { return []api.Command{times(x.count, c)} }
			behind(nil)
			behind(one(do(api.DoRight)), ctrl('F'))
			behind(one(do(api.DoWordLeft)), meta(char('b')))
			behind(one(insert("x")), char('x'))
			behind(one(insert("\xff")), bad("\xff"))
			behind(one(do(api.DoUp)), named(api.KeyUp))
			behind(one(do(api.DoUnbound)), named(api.KeyEsc))
			behind(one(api.Command{Kind: api.DoPaste, Text: "5"}), paste("5"))
			behind(one(do(api.DoUndo)), ctrl('X'), char('u'))
			behind(one(insert("5")), ctrl('Q'), char('5'))
			behind(one(insert("\a")), ctrl('Q'), ctrl('G'))
			behind(one(mark(api.DoSetMark, 'k')), meta(char('m')), char('k'))
			behind(one(mark(api.DoGoMark, '@')), meta(char('\'')), char('@'))
			for _, k := range []api.Key{ctrl('X'), meta(char('m')), meta(char('\''))} {
				behind(one(do(api.DoUnbound)), k, char('5'))
				behind(one(do(api.DoUnbound)), k, meta(char('5')))
				behind([]api.Command{do(api.DoAbort)}, k, ctrl('G'))
			}
			behind(one(do(api.DoUnbound)), ctrl('Q'), meta(char('5')))
			behind([]api.Command{do(api.DoAbort)}, ctrl('G'))
			behind(one(do(api.DoUnbound)), withCtrl(char('5')))
			behind(one(do(api.DoUnbound)), withCtrl(meta(char('5'))))
			behind([]api.Command{times(x.count, insert("x")), insert("7"), do(api.DoRight)}, char('x'), char('7'), ctrl('F'))
			behind([]api.Command{times(x.count, insert("x")), times(7, do(api.DoRight))}, char('x'), meta(char('7')), ctrl('F'))
			behind([]api.Command{do(api.DoAbort), insert("7"), do(api.DoRight)}, ctrl('G'), char('7'), ctrl('F'))
		}
	}
}

// TestCountIsTold has Count and Prefix behind each digit, and behind a prefix.
func TestCountIsTold(t *testing.T) {
	for _, x := range theCounts {
		for _, p := range thePrefixes {
			b := bind.New()
			for i, k := range counted(x.digits, "-M") {
				if c, ok := b.Key(k); ok || c != (api.Command{}) {
					t.Fatalf("P19.1: digit %d of %s makes %v", i, x.digits, c)
				}
				if n, ok := b.Count(); n < 1 || n > api.MostCount || !ok || b.Prefix() != "" {
					t.Fatalf("P19.2: behind digit %d of %s %v waits", i, x.digits, waits(b))
				}
			}
			if got := waits(b); got != (waiting{"", x.count, true}) {
				t.Errorf("P19.2: behind %s %v waits", x.digits, got)
			}
			b.Key(p.key)
			if got := waits(b); got != (waiting{p.name, x.count, true}) {
				t.Errorf("P19.2: behind %s and a prefix %v waits", x.digits, got)
			}
			b.Key(meta(char('5')))
			if got := waits(b); got != nothing {
				t.Errorf("P19.2: behind a command %v waits", got)
			}
		}
	}
}

// TestDigits has keys that look like digits: with Meta they begin a count, with Ctrl or of another kind they don't.
func TestDigits(t *testing.T) {
	for c := '0'; c <= '9'; c++ {
		n := max(int(c-'0'), 1)
		for _, k := range modified(char(c)) {
			begins := []api.Command{times(n, do(api.DoRight))}
			goesOn := []api.Command{times(10+int(c-'0'), do(api.DoRight))}
			switch {
			case k.Ctrl:
				begins = []api.Command{do(api.DoUnbound), do(api.DoRight)}
				goesOn = begins
			case !k.Meta:
				begins = []api.Command{insert(string(c)), do(api.DoRight)}
			}
			want(t, "P19.1", of(k, ctrl('F')), begins...)
			want(t, "P19.1", of(meta(char('1')), k, ctrl('F')), goesOn...)
		}
		for _, k := range modified(api.Key{Kind: api.KeyF, Char: c}) {
			want(t, "P19.1", of(meta(char('2')), k, ctrl('F')), times(2, do(api.DoUnbound)), do(api.DoRight))
		}
		like := meta(bad(string(c)))
		like.Char = c
		want(t, "P19.1", of(meta(char('2')), like, ctrl('F')), times(2, do(api.DoUnbound)), do(api.DoRight))
	}
	for _, c := range []rune{'/', ':', 0x660, 0xFF11, '1' + 256, -1} {
		want(t, "P19.1", of(meta(char(c)), ctrl('F')), do(api.DoUnbound), do(api.DoRight))
		want(t, "P19.1", of(meta(char('3')), meta(char(c)), ctrl('F')), times(3, do(api.DoUnbound)), do(api.DoRight))
	}
	want(t, "P19.1", of(meta(char('3')), char('/'), char('4')), times(3, insert("/")), insert("4"))
	want(t, "P19.1", of(meta(char('3')), char(':'), char('4')), times(3, insert(":")), insert("4"))
	want(t, "P19.1", of(meta(char('3')), char(0x664), char('4')), times(3, insert("\u0664")), insert("4"))
}
