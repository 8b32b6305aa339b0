package move_test

import (
	"testing"

	"bodkin/api"
	"bodkin/move"
)

// The chapter's examples, as they stand there.

const exampleText = "ab\n\u4e00c\nd"

func TestExamplesOfGo(t *testing.T) {
	for _, k := range keepers(t, exampleText) {
		for _, x := range []struct {
			kind            api.CommandKind
			at, goal, count int
			want            answer
		}{
			{api.DoDown, 1, -1, 1, answer{3, 1, api.OK}},
			{api.DoDown, 3, 1, 1, answer{9, 1, api.OK}},
			{api.DoDown, 1, -1, 2, answer{9, 1, api.OK}},
			{api.DoDown, 9, -1, 1, answer{9, -1, api.ErrEdge}},
			{api.DoUp, 9, -1, 5, answer{1, 1, api.OK}},
			{api.DoLeft, 4, -1, 1, answer{3, -1, api.OK}},
			{api.DoRight, 8, -1, 7, answer{9, -1, api.OK}},
			{api.DoLineEnd, 3, -1, 1, answer{7, -1, api.OK}},
			{api.DoWordRight, 2, -1, 1, answer{7, -1, api.OK}},
			{api.DoInsert, 3, 4, 1, answer{0, -1, api.ErrKind}},
		} {
			to, next, e := move.Go(k.store, x.kind, x.at, x.goal, x.count)
			if got := (answer{to, next, e}); got != x.want {
				t.Errorf("examples: Go(%d, %d, %d, %d) of %s: %v, want %v", x.kind, x.at, x.goal, x.count, k.name, got, x.want)
			}
		}
	}
}

func TestExamplesOfPlaces(t *testing.T) {
	for _, k := range keepers(t, exampleText) {
		for _, x := range []struct {
			name      string
			got, want int
		}{
			{"Column(7)", move.Column(k.store, 7), 3},
			{"Column(2)", move.Column(k.store, 2), 2},
			{"Place(1, 2)", move.Place(k.store, 1, 2), 6},
			{"Place(9, 9)", move.Place(k.store, 9, 9), 9},
			{"Place(-1, 1)", move.Place(k.store, -1, 1), 1},
		} {
			if x.got != x.want {
				t.Errorf("examples: %s of %s: %d, want %d", x.name, k.name, x.got, x.want)
			}
		}
		if got, e := move.Span(k.store, api.DoLeft, 3, 2); got != (api.Span{From: 1, To: 3}) || e != api.OK {
			t.Errorf("examples: Span of %s: %v, %v", k.name, got, e)
		}
	}
}
