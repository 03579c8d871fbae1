package block

import (
	"strconv"
	"strings"
	"testing"

	"whittle/api"
	"whittle/place"
)

// a1 is the cell A1 so many rows and columns further, as a formula names it.
func a1(rows, cols int, fixCol, fixRow string) string {
	if rows < 0 || cols < 0 {
		return "#REF!"
	}
	return fixCol + place.Col(cols) + fixRow + strconv.Itoa(rows+1)
}

func TestFill(t *testing.T) { // Promise 20.3: each cell but the one that is filled from, wherever that stands in the area or beside it.
	for _, from := range []string{"B2", "C2", "D3", "B4", "D4", "A1", "F9", "C5"} {
		u := opened(t, from, "=A1+$A1+A$1+$A$1", "C3", "7", "E5", "8")
		filled(t, u, from, "B2:D4")
		for k := range 9 {
			c, _ := place.At(area("B2:D4"), k)
			if c == at(from) {
				continue
			}
			rows, cols := c.Row-at(from).Row, c.Col-at(from).Col
			want := "=" + a1(rows, cols, "", "") + "+" + a1(rows, 0, "$", "") + "+" + a1(0, cols, "", "$") + "+$A$1"
			holds(t, u, place.Name(c), want)
		}
		holds(t, u, from, "=A1+$A1+A$1+$A$1", "E5", "8", "A2", "", "E4", "", "B5", "")
	}
}

func TestFillKeepsItsCell(t *testing.T) { // Promise 20.3: the cell that is filled from is none of the edit's: it stays as it stands, and fresh.
	u := opened(t, "B2", "= (1+ 2)", "A1", "1", "C3", "2")
	settle(t, u)
	filled(t, u, "B2", "A1:C3")
	holds(t, u, "A1", "=1+2", "B2", "= (1+ 2)", "C3", "=1+2")
	if u.Stale(at("B2")) || !u.Stale(at("A1")) || u.Count() != 8 {
		t.Error(u.Count())
	}
}

func TestFillOfConstants(t *testing.T) { // Promise 20.3: constants as they stand; an empty cell empties all.
	u := opened(t, "A1", " 1.50", "B1", "'=A1")
	filled(t, u, "A1", "C1:C2")
	filled(t, u, "B1", "D1:D2")
	holds(t, u, "A1", " 1.50", "C1", " 1.50", "C2", " 1.50", "D1", "'=A1", "D2", "'=A1")
	filled(t, u, "Z9", "A1:D1")
	holds(t, u, "A1", "", "B1", "", "C1", "", "D1", "", "C2", " 1.50", "D2", "'=A1")
}

func TestFillOverSheets(t *testing.T) { // Promise 20.3: rows and columns count alone; the cell of the same place on another sheet is filled, too.
	u := opened(t, "B2", "=B1+S!B1+T!B1", "T!B2", "x")
	filled(t, u, "B2", "T!B2:C3")
	holds(t, u, "B2", "=B1+S!B1+T!B1", "T!B2", "=B1+S!B1+T!B1", "T!C2", "=C1+S!C1+T!C1", "T!B3", "=B2+S!B2+T!B2", "T!C3", "=C2+S!C2+T!C2")
	filled(t, u, "T!C3", "B2:B2")
	holds(t, u, "B2", "=B1+S!B1+T!B1")
}

func TestFillRefused(t *testing.T) { // Promises 20.1, 20.3, R5: no cell, then no block; and nothing is turned.
	u := opened(t, "A1", "1", "B1", "=A1", "C1", "=ROWS(A1:A2)", "T!A1", "=S!B1")
	ticked(t, u, 1)
	no, none := api.Refusal{Code: api.ErrBlock}, api.Refusal{Code: api.ErrCell}
	for _, c := range strange() {
		noFill(t, u, c, area("A1:B2"), none)
		noFill(t, u, c, api.Area{Top: 1}, none)
	}
	for _, a := range noBlocks() {
		noFill(t, u, at("A1"), a, no)
		noFill(t, u, at("T!IV65536"), a, no)
	}
	noFill(t, u, at("B1"), area("B1"), api.Refusal{Code: api.ErrNone})
	noFill(t, u, at("T!B1"), area("T!B1"), api.Refusal{Code: api.ErrNone})
	filled(t, u, "B1", "T!B1")
}

func TestFillRefusedByText(t *testing.T) { // Promise 20.3: move.Copy's error, with the number of the change: the cell itself is not counted.
	u := opened(t, "A9", tooLong()) // It can't stand above the row 9, below the row 17, right of the column Z.
	for a, number := range map[string]int{"A2:A11": 0, "A9:A30": 8, "A10:A30": 8, "A9:AB9": 25, "B9:AB9": 25, "Y9:AB10": 2, "A17:B18": 2, "A9:B18": 17, "T!A9:A18": 9, "T!Z9:AA9": 1} {
		noFill(t, u, at("A9"), area(a), api.Refusal{Code: api.ErrLong, Change: number})
	}
	filled(t, u, "A9", "A9:Z17")
	holds(t, u, "Z17", strings.ReplaceAll(tooLong(), "A1", "Z9"))
}

func TestFillRefusedByEdit(t *testing.T) { // Promise 20.1: what the edit refuses is answered, its number that of the change.
	u := opened(t, "B2", "=ROWS(IU1:IU2)")
	noFill(t, u, at("B2"), area("B1:B3"), api.Refusal{Code: api.ErrArea})
	noFill(t, u, at("B2"), area("A2:E2"), api.Refusal{Code: api.ErrArea, Change: 2})
	noFill(t, u, at("B2"), area("C2:E2"), api.Refusal{Code: api.ErrArea, Change: 1})
	full(t, u)
	noFill(t, u, at("B2"), area("B2:B3"), api.Refusal{Code: api.ErrFull})
	filled(t, u, "B3", "B1:B2") // nothing into something: there is room for one
	filled(t, u, "T!A101", "B2:B2")
}

func TestFillOfAll(t *testing.T) { // Promises 20.1, 20.3: MaxBlock cells, in each shape.
	for _, a := range []string{"A1:IV1", "IV65281:IV65536", "IG65521:IV65536", "T!A1:H32", "T!Q2:R129"} {
		for _, from := range []string{"A1", "IV65536", "IV65400", "R129", "T!D7"} {
			x := newTwins(t, from, "=M9+$N10")
			x.fill(at(from), area(a))
			if place.Size(area(a)) != api.MaxBlock || x.u.Version() != 2 {
				t.Error(from, a, x.u.Version())
			}
		}
	}
}
