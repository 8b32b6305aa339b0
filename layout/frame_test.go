package layout_test

import (
	"math"
	"slices"
	"testing"
	"unsafe"

	"bodkin/api"
	"bodkin/layout"
)

// copied answers a frame of its own memory with the same in it.
func copied(f api.Frame) api.Frame {
	rows := make([][]api.Cell, len(f.Rows))
	for i, r := range f.Rows {
		rows[i] = slices.Clone(r)
	}
	f.Rows = rows
	return f
}

func TestBlank(t *testing.T) {
	counts := []struct{ given, counts int }{
		{math.MinInt, 1}, {-65536, 1}, {-1, 1}, {0, 1}, {1, 1}, {2, 2}, {80, 80}, {65534, 65534}, {65535, 65535}, {65536, 65535}, {1 << 32, 65535}, {math.MaxInt, 65535},
	}
	for _, w := range counts {
		for _, n := range counts {
			f := layout.Blank(w.given, n.given)
			if f.Width != w.counts || len(f.Rows) != n.counts || f.Cursor != (api.Place{}) {
				t.Fatalf("P20.4: Blank(%d, %d): the width %d, %d rows, the cursor %v", w.given, n.given, f.Width, len(f.Rows), f.Cursor)
			}
			for _, r := range f.Rows {
				if len(r) != 0 {
					t.Fatalf("P20.4: Blank(%d, %d) has a row with cells: %v", w.given, n.given, r)
				}
			}
		}
	}
	if !alike(layout.Blank(5, 1), layout.Lay("", "", 0, 5)) {
		t.Error("P20.4: a blank frame of one row is not as nothing laid")
	}
}

// theFrames has frames that are unlike one another, ones that no Lay answers too.
func theFrames() []api.Frame {
	base := api.Frame{Width: 5, Rows: [][]api.Cell{join(row("a", "b"), wide("\u4e00")), nil, row("c")}, Cursor: api.Place{Row: 1, Col: 2}}
	with := func(change func(*api.Frame)) api.Frame {
		f := copied(base)
		change(&f)
		return f
	}
	return []api.Frame{
		base,
		with(func(f *api.Frame) { f.Width = 6 }),
		with(func(f *api.Frame) { f.Width = 0 }),
		with(func(f *api.Frame) { f.Width = -5 }),
		with(func(f *api.Frame) { f.Width = api.MostWidth }),
		with(func(f *api.Frame) { f.Width = api.MostWidth + 1 }),
		with(func(f *api.Frame) { f.Cursor.Row = 0 }),
		with(func(f *api.Frame) { f.Cursor.Row = -1 }),
		with(func(f *api.Frame) { f.Cursor.Row = math.MaxInt }),
		with(func(f *api.Frame) { f.Cursor.Col = 1 }),
		with(func(f *api.Frame) { f.Cursor.Col = math.MinInt }),
		with(func(f *api.Frame) { f.Cursor = api.Place{Row: 2, Col: 1} }),
		with(func(f *api.Frame) { f.Rows = f.Rows[:2] }),
		with(func(f *api.Frame) { f.Rows = f.Rows[1:] }),
		with(func(f *api.Frame) { f.Rows = append(f.Rows, nil) }),
		with(func(f *api.Frame) { f.Rows = append([][]api.Cell{nil}, f.Rows...) }),
		with(func(f *api.Frame) { f.Rows = nil }),
		with(func(f *api.Frame) { f.Rows[0], f.Rows[2] = f.Rows[2], f.Rows[0] }),
		with(func(f *api.Frame) { f.Rows[1], f.Rows[2] = f.Rows[2], nil }),
		with(func(f *api.Frame) { f.Rows[0] = f.Rows[0][:3] }),
		with(func(f *api.Frame) { f.Rows[0] = f.Rows[0][1:] }),
		with(func(f *api.Frame) { f.Rows[2] = nil }),
		with(func(f *api.Frame) { f.Rows[0] = append(f.Rows[0], blank) }),
		with(func(f *api.Frame) { f.Rows[1] = row(" ") }),
		with(func(f *api.Frame) { f.Rows[1] = row(" ", " ") }),
		with(func(f *api.Frame) { f.Rows[1] = []api.Cell{{}} }),
		with(func(f *api.Frame) { f.Rows[2] = append(f.Rows[2], blank) }),
		with(func(f *api.Frame) { f.Rows[2] = append(f.Rows[2], api.Cell{}) }),
		with(func(f *api.Frame) { f.Rows[2][0].Text = "d" }),
		with(func(f *api.Frame) { f.Rows[2][0].Text = "" }),
		with(func(f *api.Frame) { f.Rows[2][0].Text = "c\u0301" }),
		with(func(f *api.Frame) { f.Rows[2][0].Text = "\xff" }),
		with(func(f *api.Frame) { f.Rows[2][0].Text = "\xfe" }),
		with(func(f *api.Frame) { f.Rows[2][0].Text = "\uFFFD" }),
		with(func(f *api.Frame) { f.Rows[2][0].Span = 2 }),
		with(func(f *api.Frame) { f.Rows[2][0].Span = 0 }),
		with(func(f *api.Frame) { f.Rows[2][0].Span = -1 }),
		with(func(f *api.Frame) { f.Rows[0][0].Text = "A" }),
		with(func(f *api.Frame) { f.Rows[0][1].Span = 7 }),
		with(func(f *api.Frame) { f.Rows[0][2].Span = 1 }),
		with(func(f *api.Frame) { f.Rows[0][3].Span = 1 }),
		with(func(f *api.Frame) { f.Rows[0][3].Text = " " }),
		with(func(f *api.Frame) { f.Rows[0][0].Text, f.Rows[0][1].Text = "ab", "" }),
		with(func(f *api.Frame) { f.Rows[0][0], f.Rows[0][1] = f.Rows[0][1], f.Rows[0][0] }),
		{},
		{Width: 1},
		{Width: 1, Rows: [][]api.Cell{nil}},
		{Rows: [][]api.Cell{nil, row("a", "b")}},
		{Rows: [][]api.Cell{row("a"), row("b")}},
		{Rows: [][]api.Cell{row("a", "b"), nil}},
	}
}

func TestSame(t *testing.T) {
	list, other := theFrames(), theFrames()
	for i, a := range list {
		for j, b := range other {
			if got := layout.Same(a, b); got != (i == j) || got != alike(a, b) {
				t.Errorf("P20.5: Same of the frames %d and %d: %v", i, j, got)
			}
			if !alike(a, theFrames()[i]) {
				t.Fatalf("R3: Same changes what it is given: %v", a)
			}
		}
	}
}

// TestSameOfNone has lists of no elements, nil and empty, which mean the same.
func TestSameOfNone(t *testing.T) {
	for _, x := range [][2][][]api.Cell{
		{nil, {}}, {{nil}, {{}}}, {{nil, {}}, {{}, nil}}, {{row("a"), nil}, {row("a"), {}}},
	} {
		a, b := api.Frame{Width: 3, Rows: x[0]}, api.Frame{Width: 3, Rows: x[1]}
		if !layout.Same(a, b) || !layout.Same(b, a) {
			t.Errorf("P20.5: %v and %v are not the same", a, b)
		}
	}
}

// TestSameOfLaid has frames of Lay, of which those are the same that the plain answers say.
func TestSameOfLaid(t *testing.T) {
	var list []api.Frame
	for _, text := range []string{"", "a", "a ", "a\n", "a\u4e00", "\u4e00a", "\x01", "^A", "  "} {
		for cursor := range len(text) + 1 {
			for width := 1; width < 4; width++ {
				list = append(list, layout.Lay("", text, cursor, width), layout.Lay(text, "", cursor, width))
			}
		}
	}
	for _, a := range list {
		for _, b := range list {
			if layout.Same(a, b) != alike(a, b) {
				t.Fatalf("P20.5: Same of %v and %v: %v", a, b, layout.Same(a, b))
			}
		}
	}
}

// someFrames calls look with the makers of several frames.
func someFrames(look func(made func() api.Frame)) {
	for seed := range uint64(40) {
		text, prompt := mixed(seed, int(seed)), mixed(seed+500, int(seed%7))
		look(func() api.Frame { return layout.Lay(prompt, text, int(seed), int(seed)) })
		look(func() api.Frame { return layout.Blank(int(seed), int(seed)) })
	}
	for _, text := range []string{"", "\n\n\n", "a  \n  \nb   ", "abcabcabc", "\u4e00\u4e00\u4e00"} {
		look(func() api.Frame { return layout.Lay("", text, 1, 3) })
		look(func() api.Frame { return layout.Lay(text, text, 1, 4) })
	}
}

// TestFramesAreNew fills the rows of a frame, their spare room too, and looks at the other rows and at another frame.
func TestFramesAreNew(t *testing.T) {
	someFrames(func(made func() api.Frame) {
		f, other := made(), made()
		kept := copied(other)
		for i := range f.Rows {
			whole := f.Rows[i][:cap(f.Rows[i])]
			for j := range whole {
				whole[j] = api.Cell{Text: "spoiled", Span: i}
			}
			f.Rows[i] = whole
		}
		for i, r := range f.Rows {
			for _, c := range r {
				if c.Span != i {
					t.Fatalf("R3: the rows %d and %d share memory", i, c.Span)
				}
			}
		}
		whole := f.Rows[:cap(f.Rows)]
		for i := range whole {
			whole[i] = nil
		}
		if !alike(other, kept) || !alike(made(), kept) {
			t.Fatal("R3: two frames share memory")
		}
	})
}

// TestPlacesAreNew fills a list of places, its spare room too.
func TestPlacesAreNew(t *testing.T) {
	for seed := range uint64(40) {
		text := mixed(seed, int(seed))
		list, other := layout.Places(">", text, 5), layout.Places(">", text, 5)
		kept := slices.Clone(other)
		list = list[:cap(list)]
		for i := range list {
			list[i] = api.Place{Row: -1, Col: -1}
		}
		if !slices.Equal(other, kept) || !slices.Equal(layout.Places(">", text, 5), kept) {
			t.Fatal("R3: two lists of places share memory")
		}
	}
}

// TestTextsAreCopies writes over the bytes of the prompt and the text that were handed in.
func TestTextsAreCopies(t *testing.T) {
	for _, p := range pieces {
		for width := 1; width < 4; width++ {
			one, two := []byte(p), []byte(p+p)
			kept := plainly(p, p+p, 0, width)
			f := layout.Lay(unsafe.String(unsafe.SliceData(one), len(one)), unsafe.String(unsafe.SliceData(two), len(two)), 0, width)
			if string(one) != p || string(two) != p+p {
				t.Fatalf("R3: Lay changes %q", p)
			}
			for _, room := range [][]byte{one, two} {
				for i := range room {
					room[i] = '#'
				}
			}
			if !alike(f, kept) {
				t.Errorf("R3: the frame keeps the bytes of %q", p)
			}
		}
	}
}
