package change_test

import (
	"testing"

	"bodkin/api"
)

// The chapter's examples, as they stand there.

func TestExamples(t *testing.T) {
	lookAtOrders(t, "ab c-d\nef",
		order{api.DoDeleteRight, 1, 0, -1, made(0, 1, "", 0, "", false)},
		order{api.DoDeleteRight, 99, 0, -1, made(0, 9, "", 0, "", false)},
		order{api.DoDeleteRight, 1, 9, -1, refused(api.ErrEdge)},
		order{api.DoDeleteLeft, 2, 3, -1, made(1, 2, "", 1, "", false)},
		order{api.DoKillWordRight, 1, 0, -1, made(0, 2, "", 0, "ab", false)},
		order{api.DoKillWordRight, 1, 2, -1, made(2, 2, "", 2, " c", false)},
		order{api.DoKillWordRight, 1, 9, -1, refused(api.ErrEdge)},
		order{api.DoKillWordLeft, 2, 6, -1, made(3, 3, "", 3, "c-d", true)},
		order{api.DoKillLineEnd, 1, 3, -1, made(3, 3, "", 3, "c-d", false)},
		order{api.DoKillLineEnd, 1, 6, -1, made(6, 1, "", 6, "\n", false)},
		order{api.DoKillLineEnd, 2, 6, -1, made(6, 3, "", 6, "\nef", false)},
		order{api.DoKillLineStart, 1, 5, -1, made(0, 5, "", 0, "ab c-", true)},
		order{api.DoKillLineStart, 1, 7, -1, refused(api.ErrEdge)},
		order{api.DoKillRegion, 1, 5, 2, made(2, 3, "", 2, " c-", true)},
		order{api.DoKillRegion, 1, 2, 2, refused(api.ErrEdge)},
		order{api.DoKillRegion, 1, 5, -1, refused(api.ErrNoMark)},
		order{api.DoTransposeChars, 1, 1, -1, made(0, 2, "ba", 2, "", false)},
		order{api.DoTransposeChars, 1, 6, -1, made(4, 2, "d-", 6, "", false)},
		order{api.DoTransposeChars, 1, 0, -1, refused(api.ErrEdge)},
		order{api.DoTransposeChars, 1, 9, -1, made(7, 2, "fe", 9, "", false)},
		order{api.DoTransposeWords, 1, 0, -1, made(0, 4, "c ab", 4, "", false)},
		order{api.DoTransposeWords, 1, 1, -1, made(0, 4, "c ab", 4, "", false)},
		order{api.DoTransposeWords, 1, 4, -1, made(3, 3, "d-c", 6, "", false)},
		order{api.DoTransposeWords, 1, 9, -1, made(5, 4, "ef\nd", 9, "", false)},
		order{api.DoUpperWord, 2, 1, -1, made(1, 3, "B C", 4, "", false)},
	)
	lookAtOrders(t, "hELLO", order{api.DoCapitalWord, 1, 1, -1, made(1, 4, "Ello", 5, "", false)})
}
