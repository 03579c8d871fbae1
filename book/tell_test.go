package book

import (
	"fmt"
	"math/rand"
	"slices"
	"strings"
	"testing"

	"whittle/api"
)

func TestConstants(t *testing.T) { // Promise 11.3: a constant's kind, text and value; it has no code and uses nothing.
	long := strings.Repeat("y", api.MaxText)
	for text, want := range map[string]api.Value{
		"2": number(2, 1), "1.50": number(3, 2), "-1/3": number(-1, 3), "0": number(0, 1), "1000000000001": words("1000000000001"),
		"x": words("x"), "'12": words("12"), "'": words(""), "''": words("'"), "'=A1": words("=A1"), " =A1": words(" =A1"), " 1": words(" 1"), " ": words(" "), "-": words("-"), "A1": words("A1"), "SUM(1)": words("SUM(1)"), `"a"`: words(`"a"`),
		"TRUE": truth(true), "FALSE": truth(false), "true": words("true"),
		"#N/A": fault(api.FaultNA), "#DIV/0!": fault(api.FaultDiv), "#CIRCLE!": fault(api.FaultCircle), "#n/a": words("#n/a"),
		long: words(long), long + "y": fault(api.FaultLong), "'" + long: words(long), "'" + long + "y": fault(api.FaultLong),
	} {
		b := opened(t, put("B2", text))
		c := at("B2")
		if b.Kind(c) != api.Constant || b.Text(c) != text || b.Constant(c) != want || len(b.Code(c)) != 0 || len(b.Uses(c)) != 0 {
			t.Errorf("%q: %s", text, tellsCell(b, c))
		}
	}
}

func TestFormulas(t *testing.T) { // Promise 11.3: a formula's kind, text, code and uses; its constant is Blank.
	one := func(sheet int) api.Area { return api.Area{Sheet: sheet} }
	two := api.Area{Sheet: 1, Bottom: 1, Right: 1}
	store := api.Ins{Op: api.InsStore}
	for text, want := range map[string]struct {
		code []api.Ins
		uses []api.Area
	}{
		"=1":   {[]api.Ins{{Op: api.InsPush, V: number(1, 1)}, store}, nil},
		"= A1": {[]api.Ins{{Op: api.InsLoad, Cell: at("T!A1")}, store}, []api.Area{one(1)}},
		// Without a sheet a cell is one of the formula's own.
		"=A1+S!A1":             {[]api.Ins{{Op: api.InsLoad, Cell: at("T!A1")}, {Op: api.InsLoad, Cell: at("A1")}, {Op: api.InsBin, A: api.OpAdd}, store}, []api.Area{one(1), one(0)}},
		"=SUM(B2:A1,S!A1,$A1)": {[]api.Ins{{Op: api.InsOpen, A: api.FnSum}, {Op: api.InsScan, Area: two}, {Op: api.InsLoad, Cell: at("A1")}, {Op: api.InsFeed}, {Op: api.InsLoad, Cell: at("T!A1")}, {Op: api.InsFeed}, {Op: api.InsClose}, store}, []api.Area{two, one(0), one(1)}},
		"=CHOOSE(1,A1,A1)":     {[]api.Ins{{Op: api.InsPush, V: number(1, 1)}, {Op: api.InsChoose, To: []int{2, 4}, B: 5}, {Op: api.InsLoad, Cell: at("T!A1")}, {Op: api.InsJump, A: 5}, {Op: api.InsLoad, Cell: at("T!A1")}, store}, []api.Area{one(1)}},
		// What is never read is used, too; what ROWS asks for isn't.
		"=IF(FALSE,A1,ROWS(S!A1:B9))": {[]api.Ins{{Op: api.InsPush, V: truth(false)}, {Op: api.InsBranch, A: 4, B: 5}, {Op: api.InsLoad, Cell: at("T!A1")}, {Op: api.InsJump, A: 5}, {Op: api.InsPush, V: number(9, 1)}, store}, []api.Area{one(1)}},
		"=T!T5":                       {[]api.Ins{{Op: api.InsLoad, Cell: at("T!T5")}, store}, []api.Area{{Sheet: 1, Top: 4, Left: 19, Bottom: 4, Right: 19}}},
	} {
		b := opened(t, put("T!T5", text))
		c := at("T!T5")
		if b.Kind(c) != api.Formula || b.Text(c) != text || b.Constant(c) != (api.Value{}) {
			t.Errorf("%q: %s", text, tellsCell(b, c))
		}
		if fmt.Sprint(b.Code(c)) != fmt.Sprint(want.code) {
			t.Errorf("%q: code %v, want %v", text, b.Code(c), want.code)
		}
		if !slices.Equal(b.Uses(c), want.uses) {
			t.Errorf("%q: uses %v, want %v", text, b.Uses(c), want.uses)
		}
	}
}

func TestSheetsInFormulas(t *testing.T) { // Promise 11.2, 11.3: a formula's sheets are the book's, by their numbers.
	b := made(t, named(api.MaxSheets)...)
	for i := range api.MaxSheets {
		home := api.Cell{Sheet: api.MaxSheets - 1 - i, Row: 7}
		taken(t, b, api.Change{Cell: home, Text: fmt.Sprintf("=N%d!B1", i)})
		if l := b.Uses(home); !slices.Equal(l, []api.Area{{Sheet: i, Left: 1, Right: 1}}) {
			t.Error(i, l)
		}
		refused(t, b, api.Refusal{Code: api.ErrSheet}, api.Change{Cell: home, Text: fmt.Sprintf("=n%d!B1", i)})
	}
	refused(t, b, api.Refusal{Code: api.ErrSheet}, api.Change{Text: "=N16!B1"})
}

func TestEmptyCells(t *testing.T) { // Promise 11.3: of an empty cell, of an emptied one and of what is no cell of the book.
	b := opened(t, puts("A1", "x", "A2", "=A1", "T!A1", "=S!A2", "T!A2", "5")...)
	taken(t, b, puts("A1", "", "A2", "", "T!A1", "", "T!A2", "")...)
	cells := append(strange(), at("A1"), at("A2"), at("T!A1"), at("T!A2"), at("C7"), at("IV65536"), api.Cell{Sheet: 2}, api.Cell{Sheet: 15})
	for _, c := range cells {
		if b.Kind(c) != api.Empty || b.Text(c) != "" || b.Constant(c) != (api.Value{}) || len(b.Code(c)) != 0 || len(b.Uses(c)) != 0 {
			t.Error(tellsCell(b, c))
		}
	}
}

func TestKindsTurn(t *testing.T) { // Promise 11.3: of a constant that becomes a formula, and back.
	b := opened(t)
	c := at("B2")
	for range 3 {
		taken(t, b, put("B2", "7"))
		if b.Kind(c) != api.Constant || b.Constant(c) != number(7, 1) || len(b.Code(c)) != 0 || len(b.Uses(c)) != 0 {
			t.Error(tellsCell(b, c))
		}
		taken(t, b, put("B2", "=A1"))
		if b.Kind(c) != api.Formula || b.Constant(c) != (api.Value{}) || len(b.Code(c)) != 2 || len(b.Uses(c)) != 1 {
			t.Error(tellsCell(b, c))
		}
		taken(t, b, put("B2", ""))
		if b.Kind(c) != api.Empty || b.Constant(c) != (api.Value{}) || len(b.Code(c)) != 0 || len(b.Uses(c)) != 0 {
			t.Error(tellsCell(b, c))
		}
	}
}

func TestCellsInOrder(t *testing.T) { // Promise 11.3: by row, then by column, sheet by sheet.
	want := [][]string{{"A1", "B1", "Z1", "AA1", "IV1", "A2", "C2", "A10", "B10", "A100", "IV65536"}, {"T!B1", "T!A2", "T!AB2", "T!A65536"}}
	var all []api.Change
	for i, names := range want {
		for k, name := range names {
			all = append(all, put(name, []string{"1", "=A1", "x"}[(i+k)%3]))
		}
	}
	r := rand.New(rand.NewSource(11))
	for range 50 {
		r.Shuffle(len(all), func(i, k int) { all[i], all[k] = all[k], all[i] })
		b := opened(t, all...)
		for sheet, names := range want {
			var cells []api.Cell
			for _, name := range names {
				cells = append(cells, at(name))
			}
			if l := b.Cells(sheet); !slices.Equal(l, cells) {
				t.Fatalf("Cells(%d): %v", sheet, l)
			}
		}
		if b.Len() != len(all) {
			t.Error("Len", b.Len())
		}
		for _, sheet := range []int{-1, 2, 15, 16, -1 << 63, 1<<63 - 1} {
			if l := b.Cells(sheet); len(l) != 0 {
				t.Errorf("Cells(%d): %v", sheet, l)
			}
		}
	}
}
