package watch

import (
	"fmt"
	"strings"
	"testing"

	"whittle/api"
	"whittle/view"
)

// wrongTexts are contents that no cell takes, with their errors.
func wrongTexts() map[string]api.Errno {
	return map[string]api.Errno{
		strings.Repeat("x", api.MaxContent+1): api.ErrLong, "a\nb": api.ErrText, "=1+~": api.ErrByte, `="abc`: api.ErrQuote, "=1+": api.ErrForm,
		"=SUM(" + strings.Repeat("1,", 30) + "1)": api.ErrMany, "=" + strings.Repeat("-", 300) + "1": api.ErrNodes, "=" + strings.Repeat("-", 40) + "1": api.ErrDeep,
		"=SUMM(B1)": api.ErrName, "=SUM()": api.ErrArity, "=A1:B2": api.ErrArea, "=SUMPRODUCT(A1:A2,A1:B1)": api.ErrShape, "=X!A1": api.ErrSheet,
	}
}

// viewOf is a view that tells what a watch tells, but what the last edit did.
func viewOf(t *testing.T, x *Watch) *view.View {
	t.Helper()
	v, why := view.Restore(x.State())
	if why != api.OK {
		t.Fatal(why)
	}
	return v
}

// refused is an edit that must be refused as a view refuses it, with all that is told as it was.
func refused(t *testing.T, x *Watch, want api.Errno, changes ...api.Change) {
	t.Helper()
	ahead := tellsAll(x)
	inner := viewOf(t, x)
	r := x.Edit(changes...)
	if r.Code != want || r != inner.Edit(changes...) {
		t.Errorf("Edit(%.300q): %v, want %d", fmt.Sprint(changes), r, want)
	}
	if tellsAll(x) != ahead {
		t.Errorf("Edit(%.300q), refused, has turned what is told", fmt.Sprint(changes))
	}
}

// midway is a watch with something of all: frames under way and aborted ones, stale cells that were fresh and those that never were, circles, viewports.
func midway(t *testing.T) *Watch {
	t.Helper()
	x := settled(t, "A1", "2", "B1", "=A1*3", "C1", "=B1+1", "A2", "x", "B2", "=B2", "T!A1", "=SUM(S!A1:A2)", "T!B1", "=S!C1", "U!A1", "=T!A1")
	seen(t, x, 0, "A1:B2 IV1")
	seen(t, x, 2, "U!A1:C9")
	edited(t, x, "IV1", "7")
	edited(t, x, "A1", "4", "C2", "=A1&A2", "A3", "=C2", "B3", "=IV1")
	ticked(t, x, 1, 4, 4)
	ticked(t, x, 0, 1, 1)
	edited(t, x, "A2", "y", "T!A2", "=S!A1")
	abortedIs(t, x, "T!A1")
	ticked(t, x, 1, 3, 3)
	parkedIs(t, x, 0, "B1", 1)
	parkedIs(t, x, 1, "T!A1", 3)
	return x
}

func TestEditRefused(t *testing.T) { // Promises 18.1, 18.2, 18.4, R5: a refused edit, for whatever reason, touches nothing and turns no moment.
	x := midway(t)
	m := x.Moment()
	refused(t, x, api.ErrNone)
	var l []api.Change
	for i := range api.MaxBatch + 1 {
		l = append(l, api.Change{Cell: api.Cell{Row: i}, Text: "=T!B2"})
	}
	refused(t, x, api.ErrMany, l...)
	refused(t, x, api.ErrTwice, puts("A2", "=B1", "C2", "", "A2", "=C1")...)
	for _, c := range strange() {
		refused(t, x, api.ErrCell, api.Change{Cell: c, Text: "=A1"})
		refused(t, x, api.ErrCell, put("C2", ""), put("T!B1", "5"), api.Change{Cell: c})
	}
	for text, why := range wrongTexts() {
		refused(t, x, why, put("B1", text))
		refused(t, x, why, puts("A1", "=B1", "U!B1", "=1", "C2", "", "T!A1", text)...)
		refused(t, x, why, puts("T!B1", text, "C1", "", "C2", "")...)
	}
	momentIs(t, x, m)
	// It goes on as if nothing had been asked.
	touches(t, x, "A1 B1 C1 C2 A3 T!A1 T!B1 T!A2 U!A1", "A1", "=B1") // all of these are cyclic now
}

func TestEditRefusedFull(t *testing.T) { // Promise 18.4, R5: ErrFull, too.
	x := midway(t)
	k := x.Len()
	for row := 10; k < api.MaxCells; {
		var l []api.Change
		for len(l) < api.MaxBatch && k < api.MaxCells {
			l = append(l, api.Change{Cell: api.Cell{Row: row, Col: 9}, Text: "7"})
			row, k = row+1, k+1
		}
		taken(t, x, l...)
	}
	parkedIs(t, x, 0, "B1", 1)
	refused(t, x, api.ErrFull, puts("U!B1", "=5", "T!A2", "=S!C1", "A1", "9")...)
	refused(t, x, api.ErrFull, puts("U!B9", "=S!A1")...)
	touches(t, x, "T!B1 U!B9", "T!B1", "", "U!B9", "=S!C1")
}

func TestAsksTurnNoMoment(t *testing.T) { // Promise 18.4: reads, windows, states, viewports, refused ones too, and all that is promoted beside edits, ticks and traces.
	x := midway(t)
	m := x.Moment()
	was := tells(x)
	tellsView(x)
	seen(t, x, 0, "C1:C9")
	seen(t, x, 1, "")
	if why := x.See(0, area("T!A1")); why != api.ErrSee {
		t.Error(why)
	}
	if why := x.See(3); why != api.ErrTask {
		t.Error(why)
	}
	if _, why := x.Read(api.Cell{Sheet: 3}); why != api.ErrCell {
		t.Error(why)
	}
	if why := x.Done(at("A1")); why != api.ErrReady {
		t.Error(why)
	}
	momentIs(t, x, m)
	if tells(x) != was {
		t.Error("what was asked has touched something")
	}
}
