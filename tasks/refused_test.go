package tasks

import (
	"fmt"
	"strings"
	"testing"

	"whittle/api"
	"whittle/marks"
)

// wrongTexts are contents that no cell takes, with their errors.
func wrongTexts() map[string]api.Errno {
	return map[string]api.Errno{
		strings.Repeat("x", api.MaxContent+1): api.ErrLong, "a\nb": api.ErrText, "=1+~": api.ErrByte, `="abc`: api.ErrQuote, "=1+": api.ErrForm,
		"=SUM(" + strings.Repeat("1,", 30) + "1)": api.ErrMany, "=" + strings.Repeat("-", 300) + "1": api.ErrNodes, "=" + strings.Repeat("-", 40) + "1": api.ErrDeep,
		"=SUMM(B1)": api.ErrName, "=SUM()": api.ErrArity, "=A1:B2": api.ErrArea, "=SUMPRODUCT(A1:A2,A1:B1)": api.ErrShape, "=X!A1": api.ErrSheet,
	}
}

// refused is an edit that must be refused as the marks refuse it, with all that is told as it was.
func refused(t *testing.T, x *Tasks, want api.Errno, changes ...api.Change) {
	t.Helper()
	ahead := tellsAll(x)
	m, why := marks.Restore(stateOf(x))
	if why != api.OK {
		t.Fatal(why)
	}
	r := x.Edit(changes...)
	if r.Code != want || r != m.Edit(changes...) {
		t.Errorf("Edit(%.300q): %v, want %d", fmt.Sprint(changes), r, want)
	}
	if tellsAll(x) != ahead {
		t.Errorf("Edit(%.300q), refused, has turned what is told", fmt.Sprint(changes))
	}
}

// midway is busy's tasks with something of all: frames under way and aborted ones, values of stale cells, viewports.
func midway(t *testing.T) *Tasks {
	t.Helper()
	x := busy(t)
	seen(t, x, 0, "A1:B2 IV1")
	seen(t, x, 2, "U!A1:C9")
	edited(t, x, "T!A2", "9", "A3", "=A3", "C2", "=C1")
	abortedIs(t, x, "B1 T!B1")
	ticked(t, x, 0, 1, 1)
	parkedIs(t, x, 0, "C2", 1)
	ticked(t, x, 1, 4, 4)
	parkedIs(t, x, 1, "T!B1", 4)
	parkedIs(t, x, 2, "U!B1", 2)
	return x
}

func TestEditRefused(t *testing.T) { // Promise 16.3, R5: of a refused edit, for whatever reason, nothing is turned: no frame lost, Aborted as it was.
	x := midway(t)
	refused(t, x, api.ErrNone)
	var l []api.Change
	for i := range api.MaxBatch + 1 {
		l = append(l, api.Change{Cell: api.Cell{Row: i}, Text: "=T!B2"})
	}
	refused(t, x, api.ErrMany, l...)
	refused(t, x, api.ErrTwice, puts("A2", "=B1", "C2", "", "A2", "=C1")...)
	for _, c := range strange() {
		refused(t, x, api.ErrCell, api.Change{Cell: c, Text: "=A1"})
		refused(t, x, api.ErrCell, put("C2", ""), put("T!B1", "5"), api.Change{Cell: c})
	}
	for text, why := range wrongTexts() {
		refused(t, x, why, put("C2", text))
		refused(t, x, why, puts("A1", "=B1", "U!B1", "", "T!A1", text)...)
		refused(t, x, why, puts("T!B1", text, "C1", "", "C2", "")...)
	}
	// It goes on as if nothing had been asked.
	ticked(t, x, 0, 1, 1)
	ticked(t, x, 1, 8, 8)
	abortedIs(t, x, "B1 T!B1")
	valueIs(t, x, "T!B1", n(10))
	valueIs(t, x, "C2", n(6))
}

func TestEditRefusedFull(t *testing.T) { // Promise 16.3: ErrFull, too.
	x := midway(t)
	k := x.Len()
	for row := 10; k < api.MaxCells; {
		var l []api.Change
		for len(l) < api.MaxBatch && k < api.MaxCells {
			l = append(l, api.Change{Cell: api.Cell{Row: row, Col: 9}, Text: "7"})
			row, k = row+1, k+1
		}
		taken(t, x, l...)
	}
	parkedIs(t, x, 0, "C2", 1)
	edited(t, x, "C2", "=C1")
	abortedIs(t, x, "C2")
	refused(t, x, api.ErrFull, puts("U!B1", "=5", "T!A2", "=S!C1", "U!B9", "=S!A1")...)
	refused(t, x, api.ErrFull, puts("U!B9", "=S!A1")...)
	parkedIs(t, x, 2, "U!B1", 2)
	edited(t, x, "T!B1", "", "U!B9", "=S!C1")
	abortedIs(t, x, "T!B1")
}
