package marks

import (
	"fmt"
	"strings"
	"testing"

	"whittle/api"
	"whittle/graph"
)

// wrongTexts are contents that no cell takes, with their errors.
func wrongTexts() map[string]api.Errno {
	return map[string]api.Errno{
		strings.Repeat("x", api.MaxContent+1): api.ErrLong, "a\nb": api.ErrText, "=1+~": api.ErrByte, `="abc`: api.ErrQuote, "=1+": api.ErrForm,
		"=SUM(" + strings.Repeat("1,", 30) + "1)": api.ErrMany, "=" + strings.Repeat("-", 300) + "1": api.ErrNodes, "=" + strings.Repeat("-", 40) + "1": api.ErrDeep,
		"=SUMM(B1)": api.ErrName, "=SUM()": api.ErrArity, "=A1:B2": api.ErrArea, "=SUMPRODUCT(A1:A2,A1:B1)": api.ErrShape, "=X!A1": api.ErrSheet,
	}
}

// refused is an edit that must be refused as the graph refuses it, with all that is told as it was.
func refused(t *testing.T, m *Marks, want api.Errno, changes ...api.Change) {
	t.Helper()
	ahead := tellsAll(m)
	g, why := graph.Restore(stateOf(m))
	if why != api.OK {
		t.Fatal(why)
	}
	r := m.Edit(changes...)
	if r.Code != want || r != g.Edit(changes...) {
		t.Errorf("Edit(%.300q): %v, want %d", fmt.Sprint(changes), r, want)
	}
	if tellsAll(m) != ahead {
		t.Errorf("Edit(%.300q), refused, has turned what is told", fmt.Sprint(changes))
	}
}

// halfDone is marks with cells of all kinds, some stale, some ready, some done, and with both lists of Last.
func halfDone(t *testing.T) *Marks {
	t.Helper()
	m := opened(t, "A1", "1", "B1", "=A1", "C1", "=B1+C2", "A2", "=B2", "B2", "=A2", "C2", "=T!A1", "T!A1", "=SUM(S!A1:B1)", "T!B1", "=SUM(S!A1:C1)", "U!A1", "=S!A1", "U!B2", "=5")
	done(t, m, "B1 T!A1")
	edited(t, m, "T!A1", "=S!B1", "U!A1", "x")
	lastIs(t, m, "T!A1", "U!A1")
	are(t, m, "C1 C2 T!A1 T!B1 U!B2", "T!A1 U!B2")
	return m
}

func TestEditRefused(t *testing.T) { // Promise 15.1, R5: Edit answers what the graph's does; a refused one turns no flag, nor Last, nor Count.
	m := halfDone(t)
	refused(t, m, api.ErrNone)
	var l []api.Change
	for i := range api.MaxBatch + 1 {
		l = append(l, api.Change{Cell: api.Cell{Row: i}, Text: "=T!B2"})
	}
	refused(t, m, api.ErrMany, l...)
	refused(t, m, api.ErrTwice, puts("A2", "=B1", "C1", "", "A2", "=C1")...)
	for _, c := range strange() {
		refused(t, m, api.ErrCell, api.Change{Cell: c, Text: "=A1"})
		refused(t, m, api.ErrCell, put("A2", ""), put("B1", "=B1"), api.Change{Cell: c})
	}
	for text, why := range wrongTexts() {
		refused(t, m, why, put("B1", text))
		refused(t, m, why, puts("A1", "=B1", "A2", "", "T!A1", text)...)
		refused(t, m, why, puts("C1", text, "B2", "", "T!A1", "")...)
	}
	// It goes on as if nothing had been asked.
	done(t, m, "T!A1 C2 C1 T!B1 U!B2")
	are(t, m, "", "")
}

func TestEditRefusedFull(t *testing.T) { // Promise 15.1: ErrFull, too.
	m := halfDone(t)
	n := m.Len()
	for row := 10; n < api.MaxCells; {
		var l []api.Change
		for len(l) < api.MaxBatch && n < api.MaxCells {
			l = append(l, api.Change{Cell: api.Cell{Sheet: 1, Row: row}, Text: "7"})
			row, n = row+1, n+1
		}
		taken(t, m, l...)
	}
	edited(t, m, "T!A1", "=S!B1", "U!A1", "y")
	refused(t, m, api.ErrFull, puts("B1", "=C1", "A2", "=C1", "U!B1", "=S!A1")...)
	refused(t, m, api.ErrFull, puts("U!B1", "=S!A1")...)
	edited(t, m, "B1", "=5", "A2", "", "U!B1", "=S!C1")
	lastIs(t, m, "B1 B2 U!B1", "")
	are(t, m, "B1 C1 B2 C2 T!A1 T!B1 U!B1 U!B2", "B1 B2 U!B2")
}
