package layout_test

import (
	"math"
	"strings"
	"testing"

	"bodkin/api"
	"bodkin/cluster"
	"bodkin/layout"
)

// pieces has clusters of every kind, and what joins with a neighbour or is cut through.
var pieces = []string{
	"a", "b\u0301", " ", " \u0301", "\n", "\r\n", "\r", "\x00", "\x01", "\x1b", "\x7f", "\u0085", "\u009f",
	"\u4e00", "\u3000", "\U0001F600\u0301", "\u0301", "\u200d", "\xff", "\xff\u0301", "\xe4\xb8", "\xa0", "\u00e9", "\uFFFD", "\U0010FFFF",
}

// prompts has prompts that end in any column of narrow grids, and ones that could join with the text.
var prompts = []string{"", "> ", ">", "abc", "\u4e00", "x\n", "\n", "\r", "\x01", "\xe4\xb8", "\u0301", "   ", "ab\u4e00", "e\u0301 \r\n "}

// numbers answers numbers that look mixed, the same ones at each run.
func numbers(seed uint64) func(below int) int {
	return func(below int) int {
		seed = seed*6364136223846793005 + 1442695040888963407
		return int(seed>>33) % below
	}
}

// mixed answers a text of n pieces.
func mixed(seed uint64, n int) string {
	next := numbers(seed)
	var s strings.Builder
	for range n {
		if next(2) == 0 {
			s.WriteString(pieces[next(3)])
		} else {
			s.WriteString(pieces[next(len(pieces))])
		}
	}
	return s.String()
}

// everyText calls look with each text of at most most of the pieces.
func everyText(most int, look func(string)) {
	var grow func(text string, most int)
	grow = func(text string, most int) {
		look(text)
		for _, p := range pieces {
			if most > 0 {
				grow(text+p, most-1)
			}
		}
	}
	grow("", most)
}

// someCursors has each offset of text, and some outside of it.
func someCursors(text string) []int {
	list := []int{math.MinInt, -9, -1}
	for at := range len(text) + 3 {
		list = append(list, at)
	}
	return append(list, math.MaxInt)
}

// lookAt holds Lay at those cursors, Places and Rows against the plain answers.
func lookAt(t *testing.T, prompt, text string, width int, cursors []int) {
	t.Helper()
	want := plainly(prompt, text, 0, width)
	for _, cursor := range cursors {
		want.Cursor = placed(prompt, text, cursor, width)
		got := layout.Lay(prompt, text, cursor, width)
		if !alike(got, want) {
			t.Fatalf("P20.1: Lay(%q, %q, %d, %d): %v, want %v", prompt, text, cursor, width, got, want)
		}
		lookAtForm(t, got)
	}
	if got := layout.Rows(prompt, text, width); got != len(want.Rows) {
		t.Fatalf("P20.1: Rows(%q, %q, %d): %d, want %d", prompt, text, width, got, len(want.Rows))
	}
	lookAtPlaces(t, prompt, text, width)
}

// lookAtForm asks for what holds of every frame that Lay answers.
func lookAtForm(t *testing.T, f api.Frame) {
	t.Helper()
	if f.Width < 1 || f.Width > api.MostWidth || len(f.Rows) == 0 {
		t.Fatalf("P20.1: the width %d, %d rows", f.Width, len(f.Rows))
	}
	if f.Cursor.Row < 0 || f.Cursor.Row >= len(f.Rows) || f.Cursor.Col < 0 || f.Cursor.Col >= f.Width {
		t.Fatalf("P20.1: the cursor %v is outside of the frame", f.Cursor)
	}
	for _, row := range f.Rows {
		if len(row) > f.Width {
			t.Fatalf("P20.1: %d cells in a row of %d", len(row), f.Width)
		}
		if len(row) > 0 && row[len(row)-1] == blank {
			t.Fatalf("P20.1: the row %v ends with a blank", row)
		}
		for i, c := range row {
			switch {
			case c.Span == 2 && (i+1 == len(row) || row[i+1] != api.Cell{} || c.Text == ""):
				t.Fatalf("P20.3: the row %v: the wide cell %d has no right half", row, i)
			case c.Span == 0 && (i == 0 || row[i-1].Span != 2 || c.Text != ""):
				t.Fatalf("P20.3: the row %v: the right half %d is no wide cell's", row, i)
			case c.Span < 0 || c.Span > 2 || c.Span == 1 && c.Text == "":
				t.Fatalf("P20.1: the row %v has the cell %v", row, c)
			}
		}
	}
}

// lookAtPlaces asks for one place a boundary, each the cursor of Lay there, and for their rising.
func lookAtPlaces(t *testing.T, prompt, text string, width int) {
	t.Helper()
	list := layout.Places(prompt, text, width)
	if len(list) != len(cluster.List(text))+1 {
		t.Fatalf("P20.2: Places(%q, %q, %d): %v: so many are not asked for", prompt, text, width, list)
	}
	at := 0
	for i, p := range list {
		if want := placed(prompt, text, at, width); p != want || p != layout.Lay(prompt, text, at, width).Cursor {
			t.Fatalf("P20.2: Places(%q, %q, %d): %v: the place %d should be %v", prompt, text, width, list, i, want)
		}
		if i > 0 && !(p.Row > list[i-1].Row || p.Row == list[i-1].Row && p.Col > list[i-1].Col) {
			t.Fatalf("P20.2: Places(%q, %q, %d): %v doesn't rise", prompt, text, width, list)
		}
		at = cluster.Next(text, at)
	}
}

// TestShortTexts has all texts of few pieces, behind each prompt.
func TestShortTexts(t *testing.T) {
	for _, prompt := range prompts {
		everyText(2, func(text string) {
			for width := range 6 {
				lookAt(t, prompt, text, width, someCursors(text))
			}
		})
	}
}

// TestThreePieces has longer ones, behind fewer prompts.
func TestThreePieces(t *testing.T) {
	for _, prompt := range []string{"", ">"} {
		everyText(3, func(text string) {
			for width := 1; width < 5; width++ {
				lookAt(t, prompt, text, width, []int{0, len(text) / 2, len(text)})
			}
		})
	}
}

// TestLongTexts has mixed texts and prompts at many widths.
func TestLongTexts(t *testing.T) {
	next := numbers(20)
	for seed := range uint64(1500) {
		text := mixed(seed, next(60))
		prompt := ""
		if next(3) > 0 {
			prompt = mixed(seed+100000, next(20))
		}
		width := 1 + next(12)
		if next(4) == 0 {
			width = 1 + next(100)
		}
		cursors := []int{-1, 0, len(text), len(text) + 1}
		for range 5 {
			cursors = append(cursors, next(len(text)+1))
		}
		lookAt(t, prompt, text, width, cursors)
	}
}

// TestPromptAlone has the same pieces as a prompt: they are laid as those of a text, and the cursor stands behind them.
func TestPromptAlone(t *testing.T) {
	everyText(2, func(text string) {
		for width := range 5 {
			got, want := layout.Lay(text, "", 0, width), layout.Lay("", text, len(text), width)
			if !alike(got, want) || layout.Rows(text, "", width) != len(got.Rows) {
				t.Fatalf("P20.1: %q as a prompt, the width %d: %v, as a text %v", text, width, got, want)
			}
			if list := layout.Places(text, "", width); len(list) != 1 || list[0] != got.Cursor {
				t.Fatalf("P20.2: Places(%q, nothing, %d): %v", text, width, list)
			}
		}
	})
}
