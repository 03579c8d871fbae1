package block

import (
	"strings"
	"testing"

	"whittle/api"
	"whittle/place"
)

// tooLong is a formula just as long as may be, that is too long where A1 is named by more bytes.
func tooLong() string {
	some := "SUM(A1" + strings.Repeat(",A1", 29) + ")"
	text := "=SUM(" + some + strings.Repeat(","+some, 3) + ")"
	for len(text) < api.MaxContent {
		left := api.MaxContent - len(text) - len(`&""`)
		text += `&"` + strings.Repeat("y", min(left, 200)) + `"`
	}
	return text
}

func TestCopy(t *testing.T) { // Promise 20.2: each cell to what move.Copy tells of that of the same number; from's cells stay.
	u := opened(t, "B2", "1", "C2", "=B2+$B$2+B$2+$B2", "B3", "=SUM(B2:C2,T!A1)", "C3", "'=B2")
	copied(t, u, "B2:C3", "E9")
	holds(t, u, "E9", "1", "F9", "=E9+$B$2+E$2+$B9", "E10", "=SUM(E9:F9,T!D8)", "F10", "'=B2")
	holds(t, u, "B2", "1", "C2", "=B2+$B$2+B$2+$B2", "B3", "=SUM(B2:C2,T!A1)", "C3", "'=B2")
	copied(t, u, "C2:C2", "A1")
	holds(t, u, "A1", "=#REF!+$B$2+#REF!+$B1")
	copied(t, u, "B2:D3", "B4") // an empty cell empties the one where it goes
	holds(t, u, "B4", "1", "C4", "=B4+$B$2+B$2+$B4", "B5", "=SUM(B4:C4,T!A3)", "C5", "'=B2", "D4", "", "D5", "")
	edited(t, u, "F9", "x", "F10", "y")
	copied(t, u, "Z1:Z2", "F9")
	holds(t, u, "F9", "", "F10", "", "E9", "1", "E10", "=SUM(E9:F9,T!D8)")
}

func TestCopyPrints(t *testing.T) { // Promise 20.2: a formula is copied in its one form, onto itself, too; constants as they stand.
	u := opened(t, "A1", "= ( 1+B1 ) * (2) ", "A2", " 1.50", "A3", "'", "A4", "'= 1")
	copied(t, u, "A1:A4", "B2")
	holds(t, u, "A1", "= ( 1+B1 ) * (2) ", "B2", "=(1+C2)*2", "B3", " 1.50", "B4", "'", "B5", "'= 1")
	copied(t, u, "A1:A4", "A1")
	holds(t, u, "A1", "=(1+B1)*2", "A2", " 1.50", "A3", "'", "A4", "'= 1")
}

func TestCopyOverSheets(t *testing.T) { // Promise 20.2: the rows and columns count alone, not the sheets: a cell of its own sheet is one of the new sheet.
	u := opened(t, "A1", "=B2+T!B2+S!B2", "B1", "7")
	copied(t, u, "A1:B1", "T!B1")
	holds(t, u, "T!B1", "=C2+T!C2+S!C2", "T!C1", "7", "A1", "=B2+T!B2+S!B2", "B1", "7")
	copied(t, u, "T!B1:C1", "A1")
	holds(t, u, "A1", "=B2+T!B2+S!B2", "B1", "7")
	copied(t, u, "T!B1:B1", "T!B1")
	holds(t, u, "T!B1", "=C2+T!C2+S!C2")
}

func TestCopyOverlaps(t *testing.T) { // Promise 20.2: all contents are those ahead of the edit, whichever way the two areas overlap.
	u := opened(t)
	for _, way := range []api.Cell{{Row: 1}, {Col: 1}, {Row: 1, Col: 1}, {Row: -1}, {Col: -1}, {Row: -1, Col: -1}, {Row: 1, Col: -1}, {Row: -1, Col: 2}, {}} {
		from := area("D4:F6")
		var wanted []string
		for k := range place.Size(from) {
			c, _ := place.At(from, k)
			there, _ := place.Shift(c, way.Row, way.Col)
			text, further := "="+place.Name(c), "="+place.Name(there)
			if k%4 == 0 {
				text = place.Name(c) + " says"
				further = text
			}
			edited(t, u, place.Name(c), text)
			wanted = append(wanted, place.Name(there), further)
		}
		copied(t, u, "D4:F6", place.Name(api.Cell{Row: from.Top + way.Row, Col: from.Left + way.Col}))
		holds(t, u, wanted...)
	}
}

func TestCopyRefused(t *testing.T) { // Promises 20.1, 20.2, R5: no block, no cell, no block there: the first of these, and nothing is turned.
	u := opened(t, "A1", "1", "B1", "=A1", "C1", "=ROWS(A1:A2)", "T!A1", "=S!B1")
	ticked(t, u, 1)
	no, none := api.Refusal{Code: api.ErrBlock}, api.Refusal{Code: api.ErrCell}
	for _, a := range noBlocks() {
		noCopy(t, u, a, at("A1"), no)
		noCopy(t, u, a, api.Cell{Sheet: 2}, no)
	}
	for _, c := range strange() {
		noCopy(t, u, area("A1:B2"), c, none)
		noCopy(t, u, area("T!A1"), c, none)
	}
	for to, from := range map[string]string{"IV1": "A1:B1", "A65536": "A1:A2", "IV65535": "T!A1:B1", "IU65536": "A1:B2", "T!IV65536": "C1:C2", "B1": "A1:IV1", "A65535": "A1:A3", "A65282": "A1:A256", "T!IV9": "B1:C1"} {
		noCopy(t, u, area(from), at(to), no)
	}
	for to, from := range map[string]string{"IV1": "A2:A3", "A65536": "A2:B2", "IV65536": "A2", "IU65535": "A2:B3", "A65281": "D1:D256", "T!A65536": "A2:IV2", "A1": "IV65536"} {
		copied(t, u, from, to)
	}
}

func TestCopyRefusedByText(t *testing.T) { // Promise 20.2: move.Copy's error with the number of the first such cell, ahead of all that the edit refuses.
	u := opened(t, "B2", "1", "D2", tooLong(), "B3", "=1", "D3", tooLong(), "C3", "=ROWS(A1:A3)")
	for to, from := range map[string]string{"B9999": "B2:D3", "C9999": "B2:D2", "Z9999": "D2:D3", "C9998": "A2:D3"} {
		number := map[string]int{"B2:D3": 2, "B2:D2": 2, "D2:D3": 0, "A2:D3": 3}[from]
		noCopy(t, u, area(from), at(to), api.Refusal{Code: api.ErrLong, Change: number})
	}
	noCopy(t, u, area("B3:D3"), at("B9999"), api.Refusal{Code: api.ErrLong, Change: 2})
	u = opened(t, "A2", "=ROWS(A1:A2)", "B2", tooLong())
	noCopy(t, u, area("A2:B2"), at("Y1"), api.Refusal{Code: api.ErrLong, Change: 1}) // the edit would refuse Y1, of number 0
	noCopy(t, u, area("A2:B2"), at("IV1"), api.Refusal{Code: api.ErrBlock})
	copied(t, u, "B2:B2", "B5") // as long as may be
	if got := len(u.Text(at("B5"))); got != api.MaxContent {
		t.Errorf("%d bytes", got)
	}
}

func TestCopyRefusedByEdit(t *testing.T) { // Promise 20.1: what the edit refuses is answered, the changes being in the order of cells.
	u := opened(t, "B2", "1", "C2", "=ROWS(C1:C2)", "B3", "=COLUMNS(B1:C9)", "C3", "=B3")
	noCopy(t, u, area("B2:C3"), at("B1"), api.Refusal{Code: api.ErrArea, Change: 1})
	noCopy(t, u, area("B3:C3"), at("B1"), api.Refusal{Code: api.ErrArea})
	noCopy(t, u, area("A2:B3"), at("IU2"), api.Refusal{Code: api.ErrArea, Change: 3})
	full(t, u)
	noCopy(t, u, area("B2"), at("B4"), api.Refusal{Code: api.ErrFull})
	copied(t, u, "B2", "B3")
	copied(t, u, "A1", "B3") // it empties B3: there is room for one
	copied(t, u, "B2", "B4")
}

func TestCopyOfAll(t *testing.T) { // Promises 20.1, 20.2: MaxBlock cells, in each shape; the last one is copied, too.
	for from, to := range map[string]string{"A1:IV1": "A9", "A1:A256": "B65281", "A1:P16": "IG65521", "A1:H32": "T!B1", "A1:B128": "B1"} {
		x := newTwins(t, "A1", "7", "A2", "=A1", "B1", "=IV1", "P16", "=A1", "IV1", "=A1&A9", "A256", "=A1", "H32", "=A1", "B128", "=H1")
		x.copy(area(from), at(to))
		if place.Size(area(from)) != api.MaxBlock || x.u.Version() != 2 {
			t.Error(from, to, x.u.Version())
		}
	}
}
