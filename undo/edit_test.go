package undo

import (
	"fmt"
	"strconv"
	"strings"
	"testing"

	"whittle/api"
	"whittle/place"
	"whittle/view"
)

func TestEditAnswers(t *testing.T) { // Promise 19.2: Edit does what the watch's does, and answers it.
	x := opened(t)
	if r := x.Edit(puts("A1", "1", "B1", "=A1")...); r != (api.Refusal{}) {
		t.Error(r)
	}
	if r := x.Edit(puts("A1", "1", "B1", "=A1+")...); r != (api.Refusal{Code: api.ErrForm, Change: 1, At: 4}) {
		t.Error(r)
	}
	holds(t, x, "A1", "1", "B1", "=A1")
	if x.Version() != 1 || !x.Stale(at("B1")) {
		t.Error(x.Version())
	}
	momentIs(t, x, 1)
	sinceIs(t, x, 0, "A1 B1")
	stepsAre(t, x, 1, 0)
}

func TestEditsThatChangeNothing(t *testing.T) { // Promise 19.2: an accepted edit can be taken back, though its cells hold what they held.
	x := opened(t, "A1", "1")
	edited(t, x, "A1", "1")
	edited(t, x, "B1", "")
	stepsAre(t, x, 3, 0)
	undone(t, x)
	undone(t, x)
	holds(t, x, "A1", "1", "B1", "")
	undone(t, x)
	holds(t, x, "A1", "")
	stuck(t, x, x.Undo)
}

func TestEditForgetsWhatCouldBeDoneAgain(t *testing.T) { // Promise 19.2: behind an accepted edit nothing can be done again, however much could; what could be taken back can.
	x := opened(t)
	for i := range 5 {
		edited(t, x, "A1", strconv.Itoa(i))
	}
	for range 3 {
		undone(t, x)
	}
	stepsAre(t, x, 2, 3)
	edited(t, x, "B1", "x")
	stepsAre(t, x, 3, 0)
	stuck(t, x, x.Redo)
	undone(t, x)
	holds(t, x, "A1", "1", "B1", "")
	redone(t, x)
	holds(t, x, "A1", "1", "B1", "x")
	stuck(t, x, x.Redo)
	undone(t, x)
	edited(t, x, "A1", "1") // one that changes nothing does so, too
	stuck(t, x, x.Redo)
	for range 3 {
		undone(t, x)
	}
	edited(t, x, "A1", "9") // one behind which all was taken back
	stepsAre(t, x, 1, 0)
	stuck(t, x, x.Redo)
	undone(t, x)
	holds(t, x, "A1", "")
	stuck(t, x, x.Undo)
}

func TestEditForgetsTheFirst(t *testing.T) { // Promise 19.2: as many as MaxUndo can be taken back; with one more the first of them is forgotten, and what it laid stays.
	for _, k := range []int{api.MaxUndo - 1, api.MaxUndo, api.MaxUndo + 1, api.MaxUndo + 2, 3*api.MaxUndo + 7} {
		x := opened(t)
		for i := range k {
			stepsAre(t, x, min(i, api.MaxUndo), 0)
			edited(t, x, place.Name(api.Cell{Row: i}), "x", "B1", strconv.Itoa(i))
		}
		left := min(k, api.MaxUndo)
		for i := range left {
			stepsAre(t, x, left-i, i)
			undone(t, x)
		}
		stuck(t, x, x.Undo)
		forgotten, b1 := k-left, ""
		if forgotten > 0 {
			b1 = strconv.Itoa(forgotten - 1)
		}
		holds(t, x, "B1", b1)
		for i := range k {
			text := ""
			if i < forgotten {
				text = "x"
			}
			holds(t, x, place.Name(api.Cell{Row: i}), text)
		}
		for range left {
			redone(t, x)
		}
		stuck(t, x, x.Redo)
		holds(t, x, "A1", "x", "B1", strconv.Itoa(k-1))
		edited(t, x, "C1", "1")
		stepsAre(t, x, min(k+1, api.MaxUndo), 0)
	}
}

// wrongTexts are contents that no cell takes, with their errors.
func wrongTexts() map[string]api.Errno {
	return map[string]api.Errno{
		strings.Repeat("x", api.MaxContent+1): api.ErrLong, "a\nb": api.ErrText, "=1+~": api.ErrByte, `="abc`: api.ErrQuote, "=1+": api.ErrForm,
		"=SUM(" + strings.Repeat("1,", 30) + "1)": api.ErrMany, "=" + strings.Repeat("-", 300) + "1": api.ErrNodes, "=" + strings.Repeat("-", 40) + "1": api.ErrDeep,
		"=SUMM(B1)": api.ErrName, "=SUM()": api.ErrArity, "=A1:B2": api.ErrArea, "=SUMPRODUCT(A1:A2,A1:B1)": api.ErrShape, "=X!A1": api.ErrSheet,
	}
}

// refused is an edit that must be refused as a view refuses it, with all that is told as it was.
func refused(t *testing.T, x *Undo, want api.Errno, changes ...api.Change) {
	t.Helper()
	inner, why := view.Restore(x.State())
	if why != api.OK {
		t.Fatal(why)
	}
	ahead := tellsAll(x)
	r := x.Edit(changes...)
	if r.Code != want || r != inner.Edit(changes...) {
		t.Errorf("Edit(%.300q): %v, want %d", fmt.Sprint(changes), r, want)
	}
	if tellsAll(x) != ahead {
		t.Errorf("Edit(%.300q), refused, has turned what is told", fmt.Sprint(changes))
	}
}

// midway is an undo with something of all: edits to be taken back and to be done again, a frame under way, stale cells that were fresh and those that never were, circles, viewports.
func midway(t *testing.T) *Undo {
	t.Helper()
	x := settled(t, "A1", "2", "B1", "=A1*3", "C1", "=B1+1", "A2", "x", "B2", "=B2", "T!A1", "=SUM(S!A1:A2)", "T!B1", "=S!C1", "U!A1", "=T!A1")
	seen(t, x, 0, "A1:B2 IV1")
	seen(t, x, 2, "U!A1:C9")
	edited(t, x, "IV1", "7")
	edited(t, x, "A1", "4", "C2", "=A1&A2", "A3", "=C2", "B3", "=IV1")
	edited(t, x, "A2", "y", "T!A2", "=S!A1")
	edited(t, x, "A3", "", "C2", "9")
	edited(t, x, "A1", "=C1", "U!B2", "3")
	undone(t, x)
	ticked(t, x, 1, 4, 4)
	undone(t, x)
	ticked(t, x, 0, 1, 1)
	parkedIs(t, x, 0, "B1", 1)
	parkedIs(t, x, 1, "T!A1", 4)
	stepsAre(t, x, 4, 2)
	return x
}

func TestEditRefused(t *testing.T) { // Promise 19.2, R5: a refused edit, for whatever reason, turns nothing: what can be taken back and done again is what it was.
	x := midway(t)
	refused(t, x, api.ErrNone)
	var l []api.Change
	for i := range api.MaxBatch + 1 {
		l = append(l, api.Change{Cell: api.Cell{Row: i}, Text: "=T!B2"})
	}
	refused(t, x, api.ErrMany, l...)
	refused(t, x, api.ErrTwice, puts("A2", "=B1", "C2", "", "A2", "=C1")...)
	for _, c := range strange() {
		refused(t, x, api.ErrCell, api.Change{Cell: c, Text: "=A1"})
		refused(t, x, api.ErrCell, put("C2", ""), put("T!B1", "5"), api.Change{Cell: c})
	}
	for text, why := range wrongTexts() {
		refused(t, x, why, put("B1", text))
		refused(t, x, why, puts("A1", "=B1", "U!B1", "=1", "C2", "", "T!A1", text)...)
		refused(t, x, why, puts("T!B1", text, "C1", "", "C2", "")...)
	}
	same := midway(t)
	for range 2 { // It goes on as if nothing had been asked.
		redone(t, x)
		redone(t, same)
	}
	stuck(t, x, x.Redo)
	for range 6 {
		undone(t, x)
		undone(t, same)
	}
	stuck(t, x, x.Undo)
	if x.Len() != 0 || tellsAll(x) != tellsAll(same) {
		t.Error(x.Len())
	}
}

func TestEditRefusedFull(t *testing.T) { // Promise 19.2, R5: ErrFull, too; and a book that was full can be taken back to, and done again.
	x := midway(t)
	row := 10
	for x.Len() < api.MaxCells {
		var l []api.Change
		for len(l) < api.MaxBatch && x.Len()+len(l) < api.MaxCells {
			l = append(l, api.Change{Cell: api.Cell{Row: row, Col: 9}, Text: "7"})
			row++
		}
		taken(t, x, l...)
	}
	back, _ := x.Steps()
	refused(t, x, api.ErrFull, puts("U!B1", "=5", "T!A2", "=S!C1", "A1", "9")...)
	refused(t, x, api.ErrFull, put("U!B9", "=S!A1"))
	stepsAre(t, x, back, 0)
	edited(t, x, "J11", "", "J12", "", "J13", "")
	edited(t, x, "U!B7", "=1", "U!B8", "=1", "U!B9", "=1", "A1", "5") // full again, by other cells
	refused(t, x, api.ErrFull, put("J11", "7"))
	for range 2 {
		undone(t, x)
		undone(t, x)
		holds(t, x, "J11", "7", "U!B9", "", "A1", "4")
		if x.Len() != api.MaxCells {
			t.Error(x.Len())
		}
		refused(t, x, api.ErrFull, put("U!B9", "=S!A1"))
		redone(t, x)
		redone(t, x)
		holds(t, x, "J11", "", "U!B9", "=1", "A1", "5")
		if x.Len() != api.MaxCells {
			t.Error(x.Len())
		}
	}
}
