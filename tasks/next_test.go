package tasks

import (
	"testing"

	"whittle/api"
)

func TestNextOnOneLevel(t *testing.T) { // Promise 16.5: in the order of cells: by row, then column; each task its own sheet's.
	x := opened(t, "AA1", "=1", "Z1", "=1", "A10", "=1", "B9", "=1", "A9", "=1", "T!C3", "=1", "T!D2", "=1")
	for _, want := range []string{"Z1", "AA1", "A9", "B9", "A10", ""} {
		nextIs(t, x, 0, want)
		nextIs(t, x, 1, "T!D2")
		nextIs(t, x, 2, "")
		x.Tick(0, 2)
	}
	ticked(t, x, 1, 2, 2)
	nextIs(t, x, 1, "T!C3")
}

func TestNextByLevel(t *testing.T) { // Promise 16.5: ready cells by their levels, rising, whatever their order; a ready cell's level hangs on fresh ones, too.
	x := settled(t, "C1", "=1", "C2", "=C1", "C3", "=C2", "T!C1", "=S!C3")
	edited(t, x, "A1", "=C3", "A2", "=C2+C1", "A3", "=C1", "B1", "=T!C1", "B3", "=Z9", "IV65536", "=7", "B2", "=1+1")
	wroteIs(t, x, 0, "B2 B3 IV65536 A3 A2 A1 B1")
}

// wroteIs holds which cells a task writes, one behind the other, and which came next ahead of each.
func wroteIs(t *testing.T, x *Tasks, task int, want string) {
	t.Helper()
	var l []api.Cell
	for {
		c, ok := x.Next(task)
		if !ok {
			break
		}
		if !x.Stale(c) {
			t.Fatalf("Next(%d): %s, which is fresh", task, names(c))
		}
		for x.Stale(c) {
			if next, ok := x.Next(task); next != c || !ok {
				t.Fatalf("Next(%d): %s in the midst of %s", task, names(next), names(c))
			}
			ticked(t, x, task, 1, 1)
		}
		l = append(l, c)
	}
	if got := names(l...); got != want {
		t.Errorf("written are %s, want %s", got, want)
	}
}

func TestNextByLevelAsItIsNow(t *testing.T) { // Promise 16.5: levels turn by edits of other cells, of ready cells that no edit names.
	x := settled(t, "A1", "1", "T!A1", "1", "T!B1", "=T!A1", "T!C1", "=T!B1")
	edited(t, x, "B1", "=T!C1", "C1", "=T!B1", "A2", "=T!A1")
	nextIs(t, x, 0, "A2") // levels 3, 2 and 1
	edited(t, x, "T!B1", "5", "T!C1", "6")
	nextIs(t, x, 0, "B1") // all of level 1
	edited(t, x, "T!A1", "=1", "T!B1", "=T!A1")
	ticked(t, x, 1, 9, 4)
	nextIs(t, x, 0, "B1") // 1, 3 and 2
	edited(t, x, "T!C1", "=T!B1")
	ticked(t, x, 1, 9, 2)
	wroteIs(t, x, 0, "A2 C1 B1")
}

func TestNextSeen(t *testing.T) { // Promise 16.5: seen cells ahead of all others, whatever their levels; among them by level and order, as among the others.
	x := settled(t, "Z1", "=1", "Z2", "=Z1", "Z3", "=Z2")
	edited(t, x, "A1", "=1", "B1", "=Z1", "C1", "=Z2", "A2", "=Z3", "B2", "=1", "C2", "=Z1", "A3", "=Z2", "T!A1", "=1")
	seen(t, x, 0, "C1:C9 A3 A3:B3")
	nextIs(t, x, 0, "C2")
	again := restored(t, stateOf(x))
	wroteIs(t, again, 0, "C2 C1 A3 A1 B2 B1 A2")
	seen(t, x, 0, "A1:B2") // anew: none of those ahead
	wroteIs(t, x, 0, "A1 B2 B1 A2 C2 C1 A3")
	nextIs(t, x, 1, "T!A1")
}

func TestNextSeenOfItsOwnTask(t *testing.T) { // Promises 16.4, 16.5: what one task sees is nothing to another.
	x := opened(t, "A1", "=1", "B2", "=1", "T!A1", "=1", "T!B2", "=1")
	seen(t, x, 0, "B2:C3")
	nextIs(t, x, 0, "B2")
	nextIs(t, x, 1, "T!A1")
	seen(t, x, 1, "T!B2")
	seen(t, x, 0, "")
	nextIs(t, x, 0, "A1")
	nextIs(t, x, 1, "T!B2")
}

func TestNextIsReady(t *testing.T) { // Promise 16.5: stale cells that use stale ones don't come, seen or not; those that wait for another sheet neither.
	x := opened(t, "A1", "=T!B1", "B1", "=C1", "C1", "=2", "T!B1", "=U!A1", "U!A1", "=3")
	seen(t, x, 0, "A1:B1")
	nextIs(t, x, 0, "C1")
	nextIs(t, x, 1, "")
	nextIs(t, x, 2, "U!A1")
	ticked(t, x, 0, 99, 4)
	nextIs(t, x, 0, "")
	ticked(t, x, 2, 99, 2)
	nextIs(t, x, 0, "")
	nextIs(t, x, 1, "T!B1")
	ticked(t, x, 1, 99, 2)
	nextIs(t, x, 0, "A1")
}

func TestNextOfFrame(t *testing.T) { // Promise 16.5: its frame's cell, though another one would be ahead by now.
	x := opened(t, "B1", "=1+2")
	ticked(t, x, 0, 1, 1)
	edited(t, x, "A1", "=1")
	seen(t, x, 0, "A1")
	nextIs(t, x, 0, "B1")
	ticked(t, x, 0, 3, 3)
	nextIs(t, x, 0, "A1")
}

func TestNextOfNone(t *testing.T) { // Promise 16.5: false, if nothing is ready, or there is no such task.
	x := settled(t, "A1", "1", "B1", "=A1", "C1", "=C1")
	for task := range 3 {
		nextIs(t, x, task, "")
	}
	edited(t, x, "A1", "=2")
	for _, task := range oddTasks() {
		nextIs(t, x, task, "")
	}
}

func TestNextTurnsNothing(t *testing.T) { // Promises 16.5, 16.8: asked ever so often it begins nothing.
	x := opened(t, "A1", "=1", "B1", "=2")
	for range 3 {
		nextIs(t, x, 0, "A1")
		parkedIs(t, x, 0, "", 0)
	}
	edited(t, x, "A1", "=2")
	abortedIs(t, x, "")
}

// doneIs is a Done that must be taken, as others than a tick may call it.
func doneIs(t *testing.T, x *Tasks, name string) {
	t.Helper()
	if why := x.Done(at(name)); why != api.OK {
		t.Fatalf("Done(%s): %d", name, why)
	}
}

// waiting is tasks of a state: A1 holds 2, and B1 =A1, which is stale and was never fresh with contents.
func waiting(t *testing.T) *Tasks {
	t.Helper()
	return restored(t, api.State{
		Sheets:  []string{"S"},
		Version: 1,
		Cells: []api.Held{
			{Cell: at("A1"), Text: "2", V: n(2), Ever: true, Version: 1},
			{Cell: at("B1"), Text: "=A1", Stale: true},
		},
		Views:  make([][]api.Area, 1),
		Frames: make([]api.Flight, 1),
	})
}

func TestNextBehindDoneOfState(t *testing.T) { // Promises 16.5, 16.6, 16.10: what a state says, an edit adds and a Done takes away leaves as many stale as there were: yet it is another cell that is ready.
	for _, done := range []string{"B1", "C1"} {
		x := waiting(t)
		edited(t, x, "C1", "=A1")
		staleAre(t, x, "B1 C1", "B1 C1")
		doneIs(t, x, done)
		left := map[string]string{"B1": "C1", "C1": "B1"}[done]
		staleAre(t, x, left, left)
		nextIs(t, x, 0, left)
		ticked(t, x, 0, 9, 2)
		valueIs(t, x, left, n(2))
		staleAre(t, x, "", "")
		nextIs(t, x, 0, "")
		ticked(t, x, 0, 9, 0)
	}
}

func TestTickBehindDoneOfState(t *testing.T) { // Promises 16.6, 16.7: the same, with nothing asked between.
	x := waiting(t)
	edited(t, x, "C1", "=A1", "D1", "=C1")
	doneIs(t, x, "C1")
	doneIs(t, x, "D1")
	ticked(t, x, 0, 9, 2)
	staleAre(t, x, "", "")
	valueIs(t, x, "B1", n(2))
	x = waiting(t)
	edited(t, x, "C1", "=A1")
	doneIs(t, x, "C1")
	if l := traced(t, x, 0, 9); len(l) != 2 || l[0].Cell != at("B1") || !l[1].Wrote || l[1].V != n(2) {
		t.Errorf("Trace: %v", l)
	}
}

func TestNextBehindDoneAndEdit(t *testing.T) { // Promise 16.5: a Done ahead of an edit that makes as many stale again, with nothing asked between.
	x := opened(t, "A1", "1", "B1", "=A1", "C1", "=A1")
	nextIs(t, x, 0, "B1")
	doneIs(t, x, "B1")
	edited(t, x, "D1", "=A1")
	wroteIs(t, x, 0, "C1 D1")
	edited(t, x, "A1", "2")
	doneIs(t, x, "B1")
	edited(t, x, "B1", "=A1") // stale anew
	wroteIs(t, x, 0, "B1 C1 D1")
}

func TestNextBehindDoneOfFrame(t *testing.T) { // Promises 15.4, 16.5: Done turns nothing of a frame; when that has written, the ready cells come, those that others have readied too.
	x := opened(t, "A1", "1", "B1", "=A1", "C1", "=B1+1", "D1", "=A1")
	ticked(t, x, 0, 1, 1)
	doneIs(t, x, "B1")
	parkedIs(t, x, 0, "B1", 1)
	staleAre(t, x, "C1 D1", "C1 D1")
	ticked(t, x, 0, 1, 1)
	valueIs(t, x, "B1", n(1))
	wroteIs(t, x, 0, "D1 C1")
}
