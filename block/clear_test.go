package block

import (
	"fmt"
	"testing"

	"whittle/api"
	"whittle/place"
	"whittle/undo"
)

func TestClear(t *testing.T) { // Promise 20.4: each cell of the area, whatever it held; none beside it.
	l := []string{"B2", "1", "C2", "=B2", "B3", "x", "C4", "=C2", "D2", "=SUM(B2:C4)", "A3", "7", "B5", "8", "T!B2", "9"}
	u := opened(t, l...)
	cleared(t, u, "B2:C4")
	holds(t, u, "B2", "", "C2", "", "B3", "", "C4", "", "D2", "=SUM(B2:C4)", "A3", "7", "B5", "8", "T!B2", "9")
	if u.Len() != 4 {
		t.Error(u.Len())
	}
	cleared(t, u, "B2:C4") // it is an edit, though they are empty
	cleared(t, u, "T!B2")
	holds(t, u, "T!B2", "", "A3", "7")
	for _, a := range []string{"A1:IV1", "IV65281:IV65536", "IG65521:IV65536", "T!A1:H32"} {
		x := newTwins(t, l...)
		x.clear(area(a))
		if place.Size(area(a)) != api.MaxBlock || x.u.Version() != 2 {
			t.Error(a, x.u.Version())
		}
	}
}

func TestClearRefused(t *testing.T) { // Promises 20.1, 20.4, R5: what is no block, and nothing is turned.
	u := opened(t, "A1", "1", "B1", "=A1", "T!A1", "=S!B1")
	ticked(t, u, 1)
	for _, a := range noBlocks() {
		refused(t, u, fmt.Sprint("Clear", a), api.Refusal{Code: api.ErrBlock}, func() api.Refusal { return Clear(u, a) })
	}
}

func TestOneSheet(t *testing.T) { // Promise 20.1: the book's sheets count, not those that there may be.
	for n := range api.MaxSheets {
		var names []string
		for i := range n + 1 {
			names = append(names, fmt.Sprint("N", i))
		}
		u, why := undo.New(names...)
		if why != api.OK {
			t.Fatal(why)
		}
		last, next := api.Area{Sheet: n}, api.Area{Sheet: n + 1}
		to, beyond := api.Cell{Sheet: n, Row: 1}, api.Cell{Sheet: n + 1, Row: 1}
		no, none := api.Refusal{Code: api.ErrBlock}, api.Refusal{Code: api.ErrCell}
		for i, got := range []api.Refusal{Clear(u, last), Copy(u, last, to), Fill(u, to, last), Lay(u, to, "1")} {
			if got != (api.Refusal{}) {
				t.Errorf("%d sheets, %d: %v", n+1, i, got)
			}
		}
		for i, got := range []api.Refusal{Clear(u, next), Copy(u, next, to), Fill(u, to, next)} {
			if got != no {
				t.Errorf("%d sheets, %d: %v", n+1, i, got)
			}
		}
		for i, got := range []api.Refusal{Copy(u, last, beyond), Fill(u, beyond, last), Lay(u, beyond, "1")} {
			if got != none {
				t.Errorf("%d sheets, %d: %v", n+1, i, got)
			}
		}
	}
}
