package undo

import (
	"strconv"
	"testing"

	"whittle/api"
)

func TestExamples(t *testing.T) { // Row by row: each goes on where the one ahead has come to.
	x, why := New("S")
	if x == nil || why != api.OK {
		t.Fatal(why)
	}
	if back, forth := x.Undo(), x.Redo(); back != api.ErrUndo || forth != api.ErrUndo {
		t.Error(back, forth)
	}
	stepsAre(t, x, 0, 0)

	edited(t, x, "A1", "1")
	edited(t, x, "A1", "2", "B1", "=A1")
	undone(t, x)
	holds(t, x, "A1", "1", "B1", "")
	if x.Version() != 3 {
		t.Error(x.Version())
	}
	stepsAre(t, x, 1, 1)

	redone(t, x)
	holds(t, x, "A1", "2", "B1", "=A1")
	stepsAre(t, x, 2, 0)

	undone(t, x)
	edited(t, x, "C1", "")
	stuck(t, x, x.Redo)

	for i := range 70 {
		edited(t, x, "A1", strconv.Itoa(i))
	}
	stepsAre(t, x, 64, 0)
}

func TestExamplesOfTheWhole(t *testing.T) { // DOC.md's, with undos and redos as edits between.
	x := opened(t, "A1", "2", "B1", "=A1+3") // 1
	ticked(t, x, 0, 1, 1)
	parkedIs(t, x, 0, "B1", 1)
	ticked(t, x, 0, 99, 3)
	reads(t, x, "B1", fresh(n(5), 1))
	edited(t, x, "A1", "4") // 2
	reads(t, x, "B1", old(n(5), 1))
	undone(t, x)
	reads(t, x, "A1", fresh(n(2), 3))
	reads(t, x, "B1", old(n(5), 1)) // it was stale, and is, though its value would be 5
	redone(t, x)
	settle(t, x)
	reads(t, x, "B1", fresh(n(7), 4))
	edited(t, x, "A9", "1")
	edited(t, x, "D1", "7")
	undone(t, x)
	undone(t, x)
	edited(t, x, "C1", "=SUM(A1:A9)") // 3
	stepsAre(t, x, 3, 0)
	edited(t, x, "A9", "1")
	edited(t, x, "D1", "7")
	ticked(t, x, 0, 5, 5)
	undone(t, x) // of D1: C1 doesn't reach it
	abortedIs(t, x, "")
	parkedIs(t, x, 0, "C1", 5)
	undone(t, x) // of A9: it does
	abortedIs(t, x, "C1")
	parkedIs(t, x, 0, "", 0)
	settle(t, x)
	edited(t, x, "A1", "=B1") // 4
	reads(t, x, "B1", fresh(circle(), x.Version()))
	undone(t, x)
	reads(t, x, "A1", fresh(n(4), x.Version()))
	reads(t, x, "B1", old(circle(), x.Version()-1))
	redone(t, x)
	reads(t, x, "C1", fresh(circle(), x.Version()))
	if r := x.Edit(puts("A1", "1", "A1", "2")...); r != (api.Refusal{Code: api.ErrTwice, Change: 1}) { // 10
		t.Error(r)
	}
	stepsAre(t, x, 4, 0)
}
