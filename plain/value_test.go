package plain

import (
	"testing"

	"whittle/api"
	"whittle/graph"
)

func TestConstants(t *testing.T) { // Promise 13.1: a constant's value is chapter 2's Read of its text; it costs nothing.
	p := values(t, "A1", "2", "A2", "x", "A3", "TRUE", "A4", "FALSE", "A5", "#N/A", "A6", "-1.50", "A7", "'12", "A8", "'", "A9", "1/3", "B1", "'=A1", "B2", "#CIRCLE!", "B3", "007", "B4", " 2", "T!A1", "#REF!", "IV65536", "9", "U!IV65536", "y")
	for name, want := range map[string]string{
		"A1": "2", "A2": `"x"`, "A3": "TRUE", "A4": "FALSE", "A5": "#N/A", "A6": "-1.5", "A7": `"12"`, "A8": `""`, "A9": "1/3", "B1": `"=A1"`, "B2": "#CIRCLE!", "B3": "7", "B4": `" 2"`, "T!A1": "#REF!", "IV65536": "9", "U!IV65536": `"y"`,
	} {
		cellIs(t, p, name, want, 0)
	}
	if p.Total() != 0 {
		t.Error("Total:", p.Total())
	}
}

func TestNoContents(t *testing.T) { // Promise 13.1: Blank, and 0, of an empty cell and of what is no cell of the book.
	p := values(t, "A1", "1", "B1", "=A1", "T!A1", "3", "C1", "4")
	for _, name := range []string{"A2", "B2", "T!B1", "U!A1", "Z99", "IV65536", "U!IV65536"} {
		cellIs(t, p, name, "_", 0)
	}
	for _, c := range append(strange(), api.Cell{Sheet: 3}, api.Cell{Sheet: 3, Col: 1}, api.Cell{Sheet: 15}) {
		if p.Value(c) != blank || p.Cost(c) != 0 {
			t.Errorf("%v: %v, cost %d", c, p.Value(c), p.Cost(c))
		}
	}
}

func TestEmptyBook(t *testing.T) { // Promise 13.1: of a book without contents, at first and emptied.
	g := opened(t)
	for range 2 {
		p := Of(g)
		cellIs(t, p, "A1", "_", 0)
		cellIs(t, p, "B1", "_", 0)
		if p.Total() != 0 {
			t.Error("Total:", p.Total())
		}
		rowsOf(t, p, `
			A1+1 | 1 | 4
			COUNTA(A1:B9) | 0 | 21
			T!A1 | _ | 2
		`)
		taken(t, g, puts("A1", "1", "B1", "=A1")...)
		taken(t, g, puts("A1", "", "B1", "")...)
	}
}

func TestFormulas(t *testing.T) { // Promise 13.1: a formula comes to what it reads; its cost is its own alone.
	p := values(t, "A1", "2", "B1", "=A1*3", "B2", "=B1+B1", "B3", "=B2&T!A1", "T!A1", "=S!B1/S!A1", "T!A2", "=SUM(A1:A1,S!B1:B2)", "B4", "=A9", "B5", "=B4+1", "B6", "=IFERROR(B7,B1)", "B7", "=A1/A9", "C1", "=1", "C2", "=\"a\"", "C3", "=#N/A")
	for _, x := range []struct {
		name, want string
		cost       int
	}{
		{"B1", "6", 4}, {"B2", "12", 4}, {"B3", `"123"`, 4}, {"T!A1", "3", 4}, {"T!A2", "21", 6}, {"B4", "_", 2}, {"B5", "1", 4}, {"B6", "6", 4}, {"B7", "#DIV/0!", 4}, {"C1", "1", 2}, {"C2", `"a"`, 2}, {"C3", "#N/A", 2},
	} {
		cellIs(t, p, x.name, x.want, x.cost)
	}
	if p.Total() != 7*4+6+4*2 {
		t.Error("Total:", p.Total())
	}
}

func TestSpelling(t *testing.T) { // Promise 13.1: blanks, brackets and $ in a formula's text turn nothing.
	p := values(t, "A1", "2", "B1", "=A1*3+1", "B2", "= ( $A$1 * 3 )+ 1", "B3", "=(((A$1)*(3)))+S!$A1")
	cellIs(t, p, "B1", "7", 6)
	cellIs(t, p, "B2", "7", 6)
	cellIs(t, p, "B3", "8", 6)
}

func TestCyclic(t *testing.T) { // Promise 13.1: #CIRCLE!, and 0, of cells on a circle and of those that only reach one, whatever they would read.
	p := values(t,
		"A1", "=A1", "A2", "=IF(TRUE,1,A2)", "A3", "=ROWS(A3:A9)", "A4", "=IFERROR(1,A4)", "A5", "=CHOOSE(1,2,SUM(A5:A9))", "A6", "=INDEX(A6:A9,99)", "A7", "=MATCH(1/0,A1:A9)",
		"B1", "=B2", "B2", "=T!A1", "T!A1", "=S!B1+1", "B3", "=B1", "B4", "=IF(FALSE,B3,7)", "B5", "=IFERROR(B4,7)", "B6", "=ISERROR(T!A1)", "B7", "=COUNTA(B1:B3)",
		"C1", "=SUM(C1:IV65536)", "D9", "4", "C2", "=COUNT(T!A1:IV65536)", "C3", "=D9")
	for _, name := range []string{"A1", "A2", "A4", "A5", "A6", "A7", "B1", "B2", "T!A1", "B3", "B4", "B5", "B6", "B7", "C1", "C2"} {
		cellIs(t, p, name, "#CIRCLE!", 0)
	}
	// ROWS uses nothing, and what a circle reads is not cyclic.
	cellIs(t, p, "A3", "7", 2)
	cellIs(t, p, "C3", "4", 2)
	cellIs(t, p, "D9", "4", 0)
	if p.Total() != 4 {
		t.Error("Total:", p.Total())
	}
	rowsOf(t, p, `
		A1 | #CIRCLE! | 2
		IFERROR(A1,5) | 5 | 4
		ISERROR(T!A1) | TRUE | 3
		COUNTA(A1:B9) | 14 | 21
		COUNT(A1:B9) | 1 | 21
		SUM(A1:B9) | #CIRCLE! | 4
		IF(FALSE,A1,7) | 7 | 4
	`)
}

func TestTotal(t *testing.T) { // Promise 13.1: the sum of the costs of all cells, of all sheets.
	g := opened(t, "A1", "1", "B1", "=A1", "IV65536", "=B1+1", "T!A1", "=SUM(S!A1:B9)", "U!A1", "=COUNTA(S!A1:IV65536,T!A1:IV65536)", "U!A2", "=U!A2", "U!A3", "text")
	p := Of(g)
	sum := 0
	for sheet := range g.Sheets() {
		for _, c := range g.Cells(sheet) {
			sum += p.Cost(c)
		}
	}
	if want := 2 + 4 + 21 + 3 + 2*1<<24; p.Total() != want || sum != want {
		t.Error("Total:", p.Total(), "the sum of the costs:", sum, "want", want)
	}
	cellIs(t, p, "U!A1", "4", 3+2*1<<24)
}

func TestGreatTotal(t *testing.T) { // Promise 13.1, R6: costs far above 2^32.
	var l []api.Change
	for i := range 1000 {
		l = append(l, api.Change{Cell: api.Cell{Row: i}, Text: "=SUMPRODUCT(T!A1:IV65536,T!A1:IV65536)+COUNTA(T!A1:IV65536,T!A1:IV65536)"})
	}
	g := opened(t, "T!A1", "3", "T!B7", "4", "T!IV65536", "5")
	taken(t, g, l...)
	p := Of(g)
	cellIs(t, p, "A1000", "56", 2+1<<24+3+2+2*1<<24+1+1)
	if p.Total() != 1000*(3*1<<24+9) {
		t.Error("Total:", p.Total())
	}
}

func TestAsTheyAreAtTheCall(t *testing.T) { // Promise 13.1: edits behind Of turn nothing of what it tells.
	g := opened(t, "A1", "2", "B1", "=A1*3", "B2", "=SUM(A1:A9)", "C1", "=C2", "C2", "=C1", "T!A1", "=S!B1")
	p := Of(g)
	was, total := told(p, g), p.Total()
	ask := func() (api.Value, int) {
		v, steps, _ := p.Eval(row(t, "SUM(A1:IV65536)+COUNTA(T!A1:B9)+MATCH(6,A1:B9)"), home, names...)
		return v, steps
	}
	v, steps := ask()
	g2, _ := graph.Restore(api.State{Sheets: g.Sheets(), Cells: held(g)})
	for _, l := range [][]string{{"A1", "5"}, {"C2", ""}, {"A3", "7", "A2", "=A3"}, {"B1", "=#N/A", "T!A1", "", "T!B1", "9"}, {"A1", "=A1", "B1", "", "B2", ""}} {
		taken(t, g, puts(l...)...)
		if got := told(p, g2); got != was || p.Total() != total {
			t.Fatalf("behind %v:\n%s\nnot\n%s", l, got, was)
		}
		if w, again := ask(); w != v || again != steps {
			t.Fatalf("behind %v: %v in %d, not %v in %d", l, w, again, v, steps)
		}
	}
	q := Of(g)
	cellIs(t, q, "A1", "#CIRCLE!", 0)
	cellIs(t, q, "A2", "7", 2)
	cellIs(t, q, "C1", "_", 2)
	cellIs(t, q, "B1", "_", 0)
}

// held are a graph's contents as a state has them.
func held(g *graph.Graph) []api.Held {
	var l []api.Held
	for sheet := range g.Sheets() {
		for _, c := range g.Cells(sheet) {
			l = append(l, api.Held{Cell: c, Text: g.Text(c)})
		}
	}
	return l
}

func TestBehindTheGraphsBack(t *testing.T) { // R1, R7: Of ends, too, where the book was edited without its graph.
	g := opened(t, "A1", "1", "B1", "=B1", "C1", "=A1")
	g.Book.Edit(puts("A1", "=C1", "B1", "2", "C1", "=SUM(A1:D9)", "D1", "=T!A1", "T!A1", "=S!C1+S!D1")...)
	p := Of(g)
	cellIs(t, p, "B1", "2", 0)
	p.Total()
	p.Eval(row(t, "SUM(A1:D9)"), home, names...)
}
