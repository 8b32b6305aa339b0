package store_test

import (
	"testing"

	"bodkin/api"
	"bodkin/store"
)

// The chapter's examples, as they stand there.

func TestExampleOfAHybrid(t *testing.T) {
	s, e := store.New(api.KindHybrid, 4, 8, 100, "abcdef")
	if e != api.OK || s.Backend() != api.KindGap {
		t.Fatal("examples: New:", e, s.Backend())
	}
	if e := s.Insert(6, "g"); e != api.OK || s.Backend() != api.KindGap || s.Len() != 7 {
		t.Error("examples: 7 bytes:", e, s.Backend(), s.Len())
	}
	if e := s.Insert(0, "x"); e != api.OK || s.Backend() != api.KindRope || s.Counts() != (api.Counts{Moves: 1, Edited: 2}) {
		t.Error("examples: 8 bytes:", e, s.Backend(), s.Counts())
	}
	if out, e := s.Delete(0, 3); out != "xab" || e != api.OK || s.Backend() != api.KindRope || s.Len() != 5 {
		t.Error("examples: 5 bytes:", out, e, s.Backend(), s.Len())
	}
	if out, e := s.Delete(0, 1); out != "c" || e != api.OK || s.Backend() != api.KindGap || s.Counts() != (api.Counts{Moves: 2, Edited: 6}) {
		t.Error("examples: 4 bytes:", out, e, s.Backend(), s.Counts())
	}
	if e := s.Switch(api.KindRope); e != api.OK {
		t.Error("examples: Switch:", e)
	}
	if e := s.Switch(api.KindRope); e != api.OK || s.Backend() != api.KindRope || s.Counts().Forced != 1 {
		t.Error("examples: Switch again:", e, s.Backend(), s.Counts())
	}
	if e := s.Switch(api.KindHybrid); e != api.ErrKind {
		t.Error("examples: Switch to KindHybrid:", e)
	}
	if e := s.Insert(0, ""); e != api.OK || s.Backend() != api.KindGap || s.Counts() != (api.Counts{Moves: 3, Forced: 1, Edited: 6}) {
		t.Error("examples: an edit of nothing:", e, s.Backend(), s.Counts())
	}
}

func TestExamplesOfKinds(t *testing.T) {
	s, e := store.New(api.KindGap, 0, 0, 9, "")
	if lo, hi := s.Thresholds(); e != api.OK || lo != 0 || hi != 1 {
		t.Error("examples: the thresholds 0 and 0:", e, lo, hi)
	}
	if e := s.Insert(0, "abc"); e != api.OK || s.Backend() != api.KindGap {
		t.Error("examples: a gap store:", e, s.Backend())
	}
	s, e = store.New(9, 5, 2, 9, "abcdef")
	if lo, hi := s.Thresholds(); e != api.OK || s.Kind() != api.KindHybrid || lo != 5 || hi != 6 || s.Backend() != api.KindRope {
		t.Error("examples: the kind 9:", e, s.Kind(), lo, hi, s.Backend())
	}
}
