package undo

import (
	"maps"
	"strconv"
	"testing"

	"whittle/api"
)

func TestUndoAndRedoOfNothing(t *testing.T) { // Promise 19.3: ErrUndo, and nothing is turned: at first, behind refused edits, behind the last Undo, behind the last Redo.
	x := opened(t)
	stuck(t, x, x.Undo)
	stuck(t, x, x.Redo)
	x.Edit(put("A1", "=1+"))
	x.Edit()
	stuck(t, x, x.Undo)
	stuck(t, x, x.Redo)
	edited(t, x, "A1", "=1", "T!A1", "=S!A1")
	stuck(t, x, x.Redo)
	ticked(t, x, 0, 1, 1)
	stuck(t, x, x.Redo)
	undone(t, x)
	stuck(t, x, x.Undo)
	redone(t, x)
	stuck(t, x, x.Redo)
	undone(t, x)
	stuck(t, x, x.Undo)
	stepsAre(t, x, 0, 1)
}

func TestContentsOfEveryKind(t *testing.T) { // Promises 19.3, 19.4: what the cells held, byte for byte: empty, a constant, a formula, cyclic, from each to each.
	kinds := []string{"", "1", "1.0", "'12", " ", "= A1 + 1", "=B1", "=T!B1*2", "=SUM(A1:B9)", "=1/0", "TRUE", "#N/A"}
	for _, was := range kinds {
		for _, is := range kinds {
			x := settled(t, "B1", was, "T!B1", "8")
			edited(t, x, "B1", is)
			undone(t, x)
			holds(t, x, "B1", was)
			redone(t, x)
			holds(t, x, "B1", is)
			undone(t, x)
			undone(t, x)
			holds(t, x, "B1", "", "T!B1", "")
			redone(t, x)
			holds(t, x, "B1", was, "T!B1", "8")
		}
	}
}

func TestEachInTurn(t *testing.T) { // Promises 19.3, 19.4: the last one that can be taken back is, and the last one that was is done again: the contents behind each are those of that edit, of all sheets.
	x := opened(t)
	all := []map[api.Cell]string{contents(x)}
	for _, l := range [][]string{
		{"A1", "1"}, {"A1", "2", "B1", "=A1", "T!A1", "=S!B1"}, {"B1", "", "U!A1", "x"}, {"T!A1", "=T!A1"},
		{"A1", "", "T!A1", "", "U!A1", ""}, {"A1", ""}, {"IV65536", "=A1", "U!IV65536", "7"}, {"A1", "=IV65536"},
	} {
		edited(t, x, l...)
		all = append(all, contents(x))
	}
	last := len(all) - 1
	for _, way := range [][]int{{last, 0, last}, {last, last - 1, last}, {last, 3, 5, 2, 6, 0, 1, 0, last, 4}} {
		for _, to := range way {
			for {
				back, forth := x.Steps()
				if back+forth != last || !maps.Equal(contents(x), all[back]) {
					t.Fatalf("with the steps %d %d the contents are %v, want %v", back, forth, contents(x), all[back])
				}
				if back == to {
					break
				}
				if back > to {
					undone(t, x)
				} else {
					redone(t, x)
				}
			}
		}
	}
}

func TestOnlyTheCellsOfTheEdit(t *testing.T) { // Promises 19.3, W6: just the edit's cells are laid anew, those too that hold what they held; all others keep value and flag.
	x := settled(t, "A1", "1", "B1", "=A1", "C1", "=B1", "A2", "=5", "B2", "=A2")
	edited(t, x, "A2", "=5", "IV1", "")
	settle(t, x)
	undone(t, x)
	if l := names(x.Last().Stale...); l != "A2 B2" {
		t.Error(l)
	}
	sinceIs(t, x, x.Moment()-1, "IV1 A2 B2")
	reads(t, x, "C1", fresh(n(1), 3))
	reads(t, x, "B2", old(n(5), 2))
	settle(t, x)
	redone(t, x)
	sinceIs(t, x, x.Moment()-1, "IV1 A2 B2")
	reads(t, x, "A2", old(n(5), 3))
}

func TestFlags(t *testing.T) { // Promise 19.4, W6: an Undo and a Redo make stale and fresh what any edit does.
	x := settled(t, "A1", "2", "B1", "=A1", "C1", "=B1")
	edited(t, x, "B1", "7")
	settle(t, x)
	undone(t, x) // a formula again
	reads(t, x, "B1", old(n(7), 2))
	reads(t, x, "C1", old(n(7), 2))
	redone(t, x) // a constant: it is fresh at once
	reads(t, x, "B1", fresh(n(7), 4))
	reads(t, x, "C1", old(n(7), 2))
	if l := x.Last(); names(l.Fresh...) != "B1" || len(l.Stale) != 0 {
		t.Error(l)
	}
	settle(t, x)
	edited(t, x, "A1", "=C1", "B1", "=A1") // a circle
	reads(t, x, "C1", fresh(circle(), 5))
	undone(t, x)
	reads(t, x, "A1", fresh(n(2), 6))
	reads(t, x, "B1", fresh(n(7), 6))
	reads(t, x, "C1", old(circle(), 5))
	redone(t, x)
	reads(t, x, "C1", fresh(circle(), 7))
	undone(t, x)
	undone(t, x)
	undone(t, x)
	reads(t, x, "A1", vacant(10))
	stuck(t, x, x.Undo)
	redone(t, x)
	reads(t, x, "A1", fresh(n(2), 11))
	reads(t, x, "B1", never()) // it was empty when it was fresh last
}

func TestFrames(t *testing.T) { // Promise 19.4, W4: an Undo and a Redo abort the frames of their cells, and of those that reach one, and no others.
	for _, way := range []string{"Undo", "Redo"} {
		x := settled(t, "A1", "2", "B1", "=SUM(A1:A9)", "T!A1", "=SUM(S!A1:A9)")
		edited(t, x, "U!A1", "=SUM(B1:B9)") // it reaches none of S
		edited(t, x, "A9", "1")
		undone(t, x)
		redone(t, x)
		do := func() { undone(t, x) }
		if way == "Redo" {
			undone(t, x)
			do = func() { redone(t, x) }
		}
		ticked(t, x, 0, 4, 4)
		ticked(t, x, 1, 6, 6)
		ticked(t, x, 2, 5, 5)
		parkedIs(t, x, 0, "B1", 4)
		do()
		abortedIs(t, x, "B1 T!A1")
		parkedIs(t, x, 0, "", 0)
		parkedIs(t, x, 1, "", 0)
		parkedIs(t, x, 2, "U!A1", 5)
	}
	x := settled(t, "A1", "2", "B1", "=SUM(A1:A9)", "T!A1", "=SUM(A2:A9)")
	edited(t, x, "A1", "3", "T!A1", "=SUM(A2:A9)")
	edited(t, x, "T!B1", "5")
	edited(t, x, "A1", "4")
	ticked(t, x, 0, 4, 4)
	ticked(t, x, 1, 6, 6)
	undone(t, x) // of A1
	abortedIs(t, x, "B1")
	parkedIs(t, x, 1, "T!A1", 6)
	ticked(t, x, 0, 7, 7)
	undone(t, x) // of T!B1: nobody reaches it
	abortedIs(t, x, "")
	redone(t, x)
	abortedIs(t, x, "")
	parkedIs(t, x, 0, "B1", 7)
	parkedIs(t, x, 1, "T!A1", 6)
	undone(t, x)
	undone(t, x) // T!A1 is one of its cells
	abortedIs(t, x, "B1 T!A1")
	settle(t, x)
	reads(t, x, "B1", fresh(n(2), x.Version()))
}

func TestMoments(t *testing.T) { // Promise 19.4, 18.2: an Undo and a Redo are moments, and touch what such an edit touches.
	x := settled(t, "A1", "2", "B1", "=A1", "C1", "=B1")
	edited(t, x, "A1", "=C1", "Z9", "")
	m := x.Moment()
	undone(t, x)
	momentIs(t, x, m+1)
	sinceIs(t, x, m, "A1 B1 C1 Z9")
	redone(t, x)
	momentIs(t, x, m+2)
	sinceIs(t, x, m+1, "A1 B1 C1 Z9")
}

func TestViewportsStay(t *testing.T) { // Promise 19.3: a viewport is no part of an edit: it can't be taken back, and stays.
	x := opened(t, "A1", "=1", "C1", "=1")
	seen(t, x, 0, "C1:C9")
	stepsAre(t, x, 1, 0)
	nextIs(t, x, 0, "C1")
	undone(t, x)
	seen(t, x, 1, "T!A1")
	redone(t, x)
	nextIs(t, x, 0, "C1")
	if len(x.Areas(0)) != 1 || len(x.Areas(1)) != 1 {
		t.Error(x.Areas(0), x.Areas(1))
	}
	seen(t, x, 0, "")
	nextIs(t, x, 0, "A1")
	stepsAre(t, x, 1, 0)
}

func TestTicksAreNoSteps(t *testing.T) { // Promise 19.3: what ticks and Dones of others turn is not taken back, and what can be is as it was.
	x := opened(t, "A1", "2", "B1", "=A1", "C1", "=B1")
	edited(t, x, "A2", "x")
	undone(t, x)
	ticked(t, x, 0, 3, 3)
	doneIs(t, x, "C1")
	if _, why := x.Trace(0, 9); why != api.OK {
		t.Error(why)
	}
	stepsAre(t, x, 1, 1)
	redone(t, x)
	undone(t, x)
	reads(t, x, "B1", fresh(n(2), 5))
	stepsAre(t, x, 1, 1)
}

func TestToTheEndAndBack(t *testing.T) { // Promise 19.5: as many Undos as Steps says, and then as many Redos, come to the contents at which they began; one more of each is refused.
	x := opened(t)
	for i := range api.MaxUndo + 9 {
		edited(t, x, "A1", strconv.Itoa(i), []string{"B1", "T!C3", "U!A1"}[i%3], "=A1+"+strconv.Itoa(i), []string{"C1", "C2"}[i%2], "")
		if i%10 == 7 {
			undone(t, x)
		}
		began := contents(x)
		back, forth := x.Steps()
		for range back {
			undone(t, x)
		}
		stuck(t, x, x.Undo)
		for range back {
			redone(t, x)
		}
		stepsAre(t, x, back, forth)
		if !maps.Equal(contents(x), began) {
			t.Fatalf("%v, began with %v", contents(x), began)
		}
		for range forth {
			redone(t, x)
		}
		stuck(t, x, x.Redo)
		for range forth {
			undone(t, x)
		}
		if !maps.Equal(contents(x), began) {
			t.Fatalf("%v, began with %v", contents(x), began)
		}
	}
}
