package undo

import (
	"slices"
	"strconv"
	"testing"

	"whittle/api"
)

func TestSheetsHandedIn(t *testing.T) { // R3: names are not changed, spare room included, and not kept.
	sheets, whole := roomy([]string{"S", "T", "U"}, "ROOM", "ROOM")
	was := slices.Clone(whole)
	x, why := New(sheets...)
	if why != api.OK || !slices.Equal(whole, was) {
		t.Fatal(why, whole)
	}
	fill(whole, "OVER")
	edited(t, x, "A1", "=T!A1", "T!A1", "=2")
	undone(t, x)
	redone(t, x)
	if !slices.Equal(x.Sheets(), was[:3]) {
		t.Error(x.Sheets())
	}
}

func TestChangesHandedIn(t *testing.T) { // R3: changes are neither changed, spare room included, nor kept: neither at the edit, nor at any Undo or Redo of it.
	room, over := put("C9", "=A1"), put("IV1", "=A1+T!B2")
	x := settled(t, "A1", "1", "B1", "=A1", "C1", "=B1")
	for _, texts := range [][]string{{"A1", "2"}, {"B1", "=C1", "A1", ""}, {"U!A1", "=1+"}, {"C1", "4", "T!A1", "", "B1", "=A1"}, {"A1", "", "A1", ""}} {
		l, whole := roomy(puts(texts...), room, room)
		was := slices.Clone(whole)
		ahead := contents(x)
		taken := x.Edit(l...).Code == api.OK
		if !slices.Equal(whole, was) {
			t.Fatalf("%v, handed in as %v", whole, was)
		}
		behind := contents(x)
		still := tellsAll(x)
		fill(whole, over)
		if tellsAll(x) != still {
			t.Fatal("what was handed in is kept")
		}
		for range 2 {
			if !taken {
				continue
			}
			undone(t, x)
			sameContents(t, x, ahead)
			redone(t, x)
			sameContents(t, x, behind)
		}
		if !slices.Equal(whole, slices.Repeat([]api.Change{over}, len(whole))) {
			t.Fatal("what was handed in is changed later")
		}
	}
	for _, l := range [][]api.Change{nil, {}, make([]api.Change, 0, 3)} {
		refused(t, x, api.ErrNone, l...)
	}
}

// sameContents holds all that stands in an undo's cells.
func sameContents(t *testing.T, x *Undo, want map[api.Cell]string) {
	t.Helper()
	got := contents(x)
	for _, c := range universe() {
		if got[c] != want[c] {
			t.Fatalf("%s holds %q, want %q", names(c), got[c], want[c])
		}
	}
	if len(got) != len(want) {
		t.Fatalf("%v, want %v", got, want)
	}
}

func TestOneListForManyEdits(t *testing.T) { // R3: a list that is handed in again and again, written over between, is each time what it was then.
	x := opened(t)
	l := make([]api.Change, 2, 8)
	for i := range 10 {
		l[0], l[1] = put("A1", strconv.Itoa(i)), api.Change{Cell: api.Cell{Row: i, Col: 1}, Text: "x"}
		taken(t, x, l...)
	}
	fill(l, put("U!A1", "over"))
	for i := 9; i > 0; i-- {
		undone(t, x)
		holds(t, x, "A1", strconv.Itoa(i-1))
		if x.Len() != i+1 {
			t.Error(x.Len())
		}
	}
	undone(t, x)
	for i := range 10 {
		redone(t, x)
		holds(t, x, "A1", strconv.Itoa(i))
		if x.Len() != i+2 {
			t.Error(x.Len())
		}
	}
}

func TestToldIsNewMemory(t *testing.T) { // R3: what is told behind an Undo and a Redo may be written over and grown: what can be taken back stays what it was.
	x := midway(t)
	was := tellsAll(x)
	for range 2 {
		fill(x.Aborted(), at("Z99"))
		fill(x.Last().Stale, at("Z99"))
		fill(x.Last().Fresh, at("Z99"))
		fill(x.Cells(0), at("Z99"))
		fill(x.State().Cells, api.Held{Cell: at("Z99"), Text: "over"})
		l, _ := x.Since(0)
		fill(l, at("Z99"))
		if tellsAll(x) != was {
			t.Fatal("what was told is kept")
		}
		undone(t, x)
		was = tellsAll(x)
	}
}

func TestForgottenIsNotKept(t *testing.T) { // LANGUAGE.md 8: what can neither be taken back nor done again is kept nowhere, spare room included.
	x := opened(t)
	for i := range api.MaxUndo + 40 {
		edited(t, x, "A1", strconv.Itoa(i))
	}
	for range 50 {
		undone(t, x)
	}
	spareIsBare(t, x)
	for range 20 {
		redone(t, x)
	}
	spareIsBare(t, x)
	edited(t, x, "A1", "x")
	spareIsBare(t, x)
	if x.forth != nil || len(x.back) != api.MaxUndo-50+20+1 {
		t.Error(len(x.forth), len(x.back))
	}
}

// spareIsBare holds that no edit stands in the room behind those that can be taken back or done again.
func spareIsBare(t *testing.T, x *Undo) {
	t.Helper()
	for _, l := range [][]edit{x.back, x.forth} {
		for _, e := range l[len(l):cap(l)] {
			if e.ahead != nil || e.behind != nil {
				t.Fatalf("%v is kept", e)
			}
		}
	}
}
