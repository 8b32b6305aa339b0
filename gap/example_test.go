package gap_test

import (
	"testing"

	"bodkin/api"
	"bodkin/gap"
)

// The chapter's examples, as they stand there.

func TestExampleOfOneBuffer(t *testing.T) {
	b, e := gap.New("hello", 10)
	if e != api.OK || b.Len() != 5 || b.Place() != 5 {
		t.Fatal("examples: New:", e, b.Len(), b.Place())
	}
	out, e := b.Replace(1, 3, "EY")
	ahead, behind := b.Halves()
	if out != "ell" || e != api.OK || b.Text() != "hEYo" || b.Place() != 3 || ahead != "hEY" || behind != "o" {
		t.Error("examples: Replace:", out, e, b.Text(), b.Place(), ahead, behind)
	}
	if e := b.Insert(4, "0123456"); e != api.ErrFull || b.Place() != 3 {
		t.Error("examples: Insert of seven bytes:", e, b.Place())
	}
	if e := b.Insert(4, "012345"); e != api.OK || b.Place() != 10 {
		t.Error("examples: Insert of six bytes:", e, b.Place())
	}
	if _, e := b.Delete(9, 2); e != api.ErrRange {
		t.Error("examples: Delete of two bytes:", e)
	}
	if out, e := b.Delete(9, 1); out != "5" || e != api.OK {
		t.Error("examples: Delete of one byte:", out, e)
	}
	if _, e := b.Slice(2, 1); e != api.ErrRange {
		t.Error("examples: Slice:", e)
	}
	if _, e := b.Delete(1, 9223372036854775807); e != api.ErrRange {
		t.Error("examples: Delete of very many bytes:", e)
	}
	if at := b.Index("Y", 0); at != 2 {
		t.Error("examples: Index of Y:", at)
	}
	if at := b.Index("", 9); at != 9 || b.Len() != 9 {
		t.Error("examples: Index of nothing at the end:", at, b.Len())
	}
	if at := b.Index("", 10); at != -1 {
		t.Error("examples: Index of nothing above the end:", at)
	}
}

func TestExamplesOfLimits(t *testing.T) {
	if b, e := gap.New("abc", 2); b != nil || e != api.ErrFull {
		t.Error("examples: a text longer than its limit:", b, e)
	}
	b, e := gap.New("", -5)
	if b == nil || e != api.OK || b.Limit() != 0 {
		t.Fatal("examples: a limit below 0:", b, e)
	}
	if e := b.Insert(0, "x"); e != api.ErrFull {
		t.Error("examples: Insert at 0:", e)
	}
	if e := b.Insert(1, "x"); e != api.ErrRange {
		t.Error("examples: Insert at 1:", e)
	}
}
