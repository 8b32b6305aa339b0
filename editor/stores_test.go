package editor_test

import (
	"slices"
	"testing"

	"bodkin/api"
	"bodkin/editor"
)

// This file has switches, and editors over stores of other kinds, beside one that is never switched.

// alike holds all that is seen of two editors against each other but for the counts.
func alike(t *testing.T, done []action, e, other *editor.Editor) {
	t.Helper()
	a, b := tell(e), tell(other)
	a.counts, b.counts = api.Counts{}, api.Counts{}
	if a != b || !slices.Equal(e.Marks(), other.Marks()) || !slices.Equal(e.Kills(), other.Kills()) || !slices.Equal(e.Entries(), other.Entries()) {
		t.Fatalf("R9: behind %v: %v, want %v", done, a, b)
	}
}

// TestSwitchesAreNotSeen has every action and a probe behind every beginning, with a switch ahead of each of them, a refused one too, and without.
func TestSwitchesAreNotSeen(t *testing.T) {
	for name, begun := range beginnings() {
		t.Run(name, func(t *testing.T) {
			t.Parallel()
			c := configs()[0]
			switched := c
			switched.Store, switched.Low, switched.High = api.KindHybrid, 3, 9
			for n, a := range everyAction() {
				for m, probe := range probes() {
					e, other := editor.New(switched), editor.New(c)
					for i, next := range all(begun, these(a, probe)) {
						if next.switches {
							continue
						}
						e.Switch(api.Kind((n+m+i)%5 - 1))
						line, accepted, err := e.Do(next.command)
						otherLine, otherAccepted, otherErr := other.Do(next.command)
						if line != otherLine || accepted != otherAccepted || err != otherErr {
							t.Fatalf("R9: behind %v: %v: %v, want %v", begun, next, err, otherErr)
						}
					}
					alike(t, these(a, probe), e, other)
				}
			}
		})
	}
}

// TestSwitch has each kind, and those that are none, at any point: the counts alone tell of it.
func TestSwitch(t *testing.T) {
	for name, begun := range beginnings() {
		for _, c := range configs() {
			e := made(t, c, begun...)
			was, marks := tell(e), e.Marks()
			for _, to := range []api.Kind{0, -1, api.KindHybrid, 4, 1 << 40, -1 << 63} {
				if err := e.Switch(to); err != api.ErrKind || tell(e) != was {
					t.Errorf("P23.4: behind %s: Switch(%d): %v, %v, was %v", name, to, err, tell(e), was)
				}
			}
			for _, to := range []api.Kind{api.KindGap, api.KindRope, api.KindRope, api.KindGap, api.KindGap, api.KindRope} {
				if err := e.Switch(to); err != api.OK {
					t.Errorf("P23.4: behind %s: Switch(%d): %v", name, to, err)
				}
			}
			now := tell(e)
			// Three of the six, or four where the text lay in a rope.
			if forced := now.counts.Forced - was.counts.Forced; forced != 3 && forced != 4 {
				t.Errorf("P23.4: behind %s: %d forced moves", name, forced)
			}
			now.counts.Forced = was.counts.Forced
			if now != was || !slices.Equal(marks, e.Marks()) {
				t.Errorf("P23.4: behind %s and switches: %v, was %v", name, now, was)
			}
		}
	}
}

// TestStoresAreAlike has long lists of mixed actions over four stores at one time, with switches put in anywhere in all but the first.
func TestStoresAreAlike(t *testing.T) {
	for seed := range 100 {
		next := numbers(uint64(seed) + 900)
		c := api.Config{Text: []int{10, 60, 400}[next(3)], Kill: next(4), History: next(4), Undo: next(6), Store: api.KindGap, Prompt: "> "}
		var list []*editor.Editor
		for _, kind := range []api.Kind{api.KindGap, api.KindRope, api.KindHybrid, 0} {
			c.Store, c.Low, c.High = kind, next(9), next(30)
			list = append(list, editor.New(c))
		}
		var done []action
		for range 200 {
			a := someAction(next)
			done = append(done[max(len(done)-12, 0):], a)
			if a.switches {
				list[1+next(3)].Switch(a.to)
				continue
			}
			line, accepted, err := list[0].Do(a.command)
			for _, other := range list[1:] {
				if otherLine, otherAccepted, otherErr := other.Do(a.command); otherLine != line || otherAccepted != accepted || otherErr != err {
					t.Fatalf("R9: behind %v: %q, %v, %v, want %q, %v, %v", done, otherLine, otherAccepted, otherErr, line, accepted, err)
				}
				alike(t, done, other, list[0])
			}
		}
	}
}
