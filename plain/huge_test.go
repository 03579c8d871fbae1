package plain

import (
	"fmt"
	"testing"

	"whittle/api"
	"whittle/code"
)

// sheetSize is how many cells a sheet has.
const sheetSize = api.MaxRows * api.MaxCols

// scattered has a few cells in the corners of T, and beside, and in the midst of it.
func scattered(t *testing.T) *Values {
	t.Helper()
	return values(t, "T!A1", "4", "T!IV1", "6", "T!C40000", "x", "T!D40000", "TRUE", "T!A65536", "8", "T!IV65536", "10", "U!A1", "1", "U!IV1", "=T!A1", "U!A65536", "=#N/A", "U!IV65536", "5")
}

// evalsHuge is evals without a run of the code, which would take too long: the steps must lie within its bounds all the same.
func evalsHuge(t *testing.T, p *Values, s, want string, steps int) {
	t.Helper()
	l := row(t, s)
	v, got, why := p.Eval(l, home, names...)
	if shown(v) != want || got != steps || why != api.OK {
		t.Errorf("Eval(%s): %s in %d steps, %d; want %s in %d", s, shown(v), got, why, want, steps)
	}
	list, _ := code.Flatten(l, home, names...)
	if least, most := code.Bounds(list); got < least || got > most {
		t.Errorf("Eval(%s) in %d steps, of %d to %d", s, got, least, most)
	}
}

func TestWholeSheets(t *testing.T) { // Promise 13.6: the value hangs on the contents, the cost on the area.
	p := scattered(t)
	const last = 65535*256 + 1 // the number of A65536, from 1 on
	const mid = 39999*256 + 3  // of C40000
	for _, x := range []struct {
		s, want string
		steps   int
	}{
		{"SUM(T!A1:IV65536)", "28", 3 + sheetSize},
		{"PRODUCT(T!A1:IV65536)", "1920", 3 + sheetSize},
		{"COUNT(T!A1:IV65536)", "4", 3 + sheetSize},
		{"COUNTA(T!A1:IV65536)", "6", 3 + sheetSize},
		{"MIN(T!A1:IV65536)", "4", 3 + sheetSize},
		{"MAX(T!A1:IV65536)", "10", 3 + sheetSize},
		{"AVERAGE(T!A1:IV65536)", "7", 3 + sheetSize},
		{"AND(T!A1:IV65536)", "TRUE", 3 + sheetSize},
		{"XOR(T!A1:IV65536)", "TRUE", 3 + sheetSize},
		{"CONCAT(T!A1:IV65536)", `"46xTRUE810"`, 3 + sheetSize},
		{"SUMSQ(T!A1:IV65536)", "216", 3 + sheetSize},
		{"GCD(T!A1:IV65536)", "2", 3 + sheetSize},
		{"LAST(T!A1:IV65536)", "10", 3 + sheetSize},
		{"OR(T!A2:IV65535)", "TRUE", 3 + mid - 256 + 1},
		{"FIRST(T!A2:IV65536)", `"x"`, 3 + mid - 256},
		{"SUM(U!A1:IV65536)", "#N/A", 3 + last},
		{"SUM(S!A1:IV65536,T!A1:IV65536)", "28", 3 + 2*sheetSize},
		{"SUM(U!A1:IV65536,T!A1:IV65536)", "#N/A", 3 + last + 1},
		{"MATCH(\"x\",T!A1:IV65536)", fmt.Sprint(mid), 5 + mid},
		{"MATCH(8,T!A1:IV65536)", fmt.Sprint(last), 5 + last},
		{"MATCH(10,T!A1:IV65536)", fmt.Sprint(sheetSize), 5 + sheetSize},
		{"MATCH(9,T!A1:IV65536)", "#N/A", 5 + sheetSize},
		{"MATCH(6,T!B1:IV65536)", "255", 5 + 255},
		{"MATCH(1,S!A1:IV65536)", "#N/A", 5 + sheetSize},
		{"COUNTIF(T!A1:IV65536,\">4\")", "3", 5 + sheetSize},
		{"COUNTIF(T!A1:IV65536,\"<>4\")", "5", 5 + sheetSize},
		{"SUMIF(T!A1:IV65536,\">4\")", "24", 5 + sheetSize + 3},
		{"SUMIF(T!A1:IV65536,\">8\",U!A1:IV65536)", "5", 5 + sheetSize + 1},
		{"SUMIF(T!A1:IV65536,\"<8\",U!A1:IV65536)", "5", 5 + sheetSize + 2},
		{"SUMIF(T!A1:IV65536,\">4\",U!A1:IV65536)", "#N/A", 5 + last + 2},
		{"LOOKUP(6,T!A1:IV65536,U!A1:IV65536)", "4", 5 + 256 + 1},
		{"LOOKUP(10,T!A1:IV65536,U!A1:IV65536)", "5", 5 + sheetSize + 1},
		{"LOOKUP(8,T!A1:IV65536,U!A1:IV65536)", "#N/A", 5 + last + 1},
		{"LOOKUP(TRUE,T!A1:IV65536,U!A1:IV65536)", "_", 5 + mid + 1 + 1},
		{"LOOKUP(7,T!A1:IV65536,U!A1:IV65536)", "#N/A", 5 + sheetSize},
		{"SUMPRODUCT(T!A1:IV1,U!A1:IV1)", "28", 3 + 256 + 2},
		{"SUMPRODUCT(T!A1:IV65536,U!A1:IV65536)", "#N/A", 3 + last + 3},
		{"SUMPRODUCT(T!A1:IV65536,T!A1:IV65536)", "216", 3 + sheetSize + 4},
		{"INDEX(T!A1:IV65536,16777216)", "10", 3},
		{"INDEX(T!A1:IV65536,40000,3)", `"x"`, 4},
	} {
		evalsHuge(t, p, x.s, x.want, x.steps)
	}
}

func TestWholeSheetsStepByStep(t *testing.T) { // Promises 13.4, 13.6: a run through all cells, with partners.
	evals(t, scattered(t), "SUMPRODUCT(T!A1:IV65536,T!A1:IV65536)", "216", 3+sheetSize+4)
}

func TestLongRowsAndColumns(t *testing.T) { // Promises 13.4, 13.6: great areas step by step, too, whose edges pass just beside cells.
	p := values(t, "A1", "1", "B2", "2", "C3", "3", "D4", "4", "A5", "5", "IV5", "6", "A6", "7", "B6", "8", "A65536", "9", "B65536", "10")
	rowsOf(t, p, `
		SUM(A1:A65536) | 22 | 65539
		SUM(B1:B65536) | 20 | 65539
		SUM(B1:C65535) | 13 | 131073
		SUM(B2:IV5) | 15 | 1023
		SUM(A6:IV6) | 15 | 259
		COUNT(C1:IV65) | 3 | 16513
		MATCH(10,A1:B65536) | 131072 | 131077
		MATCH(6,B1:IV65) | 1275 | 1280
		MATCH(7,A1:IV65) | 1281 | 1286
		SUMIF(A1:A65536,"<6",B1:B65536) | 0 | 65543
		SUMPRODUCT(A1:B65536,A1:B65536) | 324 | 131082
		LOOKUP(9,A1:A65536,B1:B65536) | 10 | 65542
	`)
}

func TestManyHuge(t *testing.T) { // Promise 13.6: as many formulas as there is room for, each over whole sheets, at once.
	g := opened(t)
	var l []api.Change
	for i := range api.MaxCells / 2 {
		l = append(l, api.Change{Cell: api.Cell{Sheet: 1, Row: 31 * i, Col: i % api.MaxCols}, Text: fmt.Sprint(i % 7)})
		l = append(l, api.Change{Cell: api.Cell{Row: i, Col: 5}, Text: []string{"=SUM(T!A1:IV65536)", "=MATCH(9,T!A1:IV65536)", "=COUNT(U!A1:IV65536)", "=COUNTIF(T!A1:IV65536,3)"}[i%4]})
	}
	taken(t, g, l...)
	p := Of(g)
	for i, want := range []string{"6138", "#N/A", "0", "293"} {
		for k := i; k < api.MaxCells/2; k += 4 {
			c := api.Cell{Row: k, Col: 5}
			if shown(p.Value(c)) != want || p.Cost(c) != sheetSize+3+i%2*2 {
				t.Fatalf("%s: %s, cost %d", g.Text(c), shown(p.Value(c)), p.Cost(c))
			}
		}
	}
	if p.Total() != api.MaxCells/2*(sheetSize+4) {
		t.Error("Total:", p.Total())
	}
}
