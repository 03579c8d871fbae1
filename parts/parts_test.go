package parts

import (
	"fmt"
	"slices"
	"strings"
	"testing"

	"whittle/api"
	"whittle/tree"
)

// row is the tree of a formula.
func row(t *testing.T, s string) []api.Node {
	t.Helper()
	l, why, at := tree.Parse(s)
	if why != api.OK {
		t.Fatalf("Parse(%q): %d at %d", s, why, at)
	}
	return l
}

// flat is a part as the row that it was made of.
func flat(p Part) []api.Node {
	l := []api.Node{p.Node}
	for _, inner := range p.Parts {
		l = append(l, flat(inner)...)
	}
	return l
}

func TestOf(t *testing.T) { // Promise 5.1: each node with its own parts, in their order.
	for _, s := range []string{"1", "A1", "A1:B2", "-A1", "1+2*3", "(1+2)*3", "NA()", "NA()+1", "SUM(A1:B2,T!C3,-1%,IF(A1,2))", "CHOOSE(1,NA(),2^3,\"x\"&A1)", "SUM(1" + strings.Repeat(",1", 29) + ")", strings.Repeat("-", 31) + "A1"} {
		l := row(t, s)
		if got := flat(Of(l)); !slices.Equal(got, l) {
			t.Errorf("%s: %v", s, got)
		}
	}
	p := Of(row(t, "IF(A1>2,SUM(1,B1:B9),NA())"))
	if len(p.Parts) != 3 || p.Parts[0].Op != api.OpGt || len(p.Parts[0].Parts) != 2 || p.Parts[1].Name != "SUM" || !p.Parts[1].Parts[1].IsArea() || p.Parts[1].Parts[0].IsArea() || p.Parts[2].Name != "NA" || len(p.Parts[2].Parts) != 0 {
		t.Error(p)
	}
}

func TestOfKeepsNothing(t *testing.T) { // R3: the row is neither changed nor kept.
	l := row(t, "SUM(1,B1:B9)+NA()")
	was := slices.Clone(l)
	p := Of(l)
	if !slices.Equal(l, was) {
		t.Error(l)
	}
	clear(l)
	if !slices.Equal(flat(p), was) {
		t.Error("the row is kept")
	}
}

func TestApart(t *testing.T) {
	for s, want := range map[string]string{"SUM(1,A1:A2,B1,C1:C2,C3:C4)": "3 2", "NA()": "0 0", "SUM(1)": "0 1", "ROWS(A1:A2)": "1 0"} {
		areas, values := Apart(Of(row(t, s)).Parts)
		if got := fmt.Sprint(len(areas), " ", len(values)); got != want {
			t.Errorf("%s: %s", s, got)
		}
		for _, p := range areas {
			if !p.IsArea() {
				t.Error(s, p)
			}
		}
		for _, p := range values {
			if p.IsArea() {
				t.Error(s, p)
			}
		}
	}
	areas, values := Apart(Of(row(t, "SUM(A1:A2,1,B1:B2,2)")).Parts)
	if areas[0].A.Col != 0 || areas[1].A.Col != 1 || values[0].V.Num.N != 1 || values[1].V.Num.N != 2 {
		t.Error("they don't stand in their order")
	}
}

func TestSite(t *testing.T) { // Promise 8.3: the first place of a name, among the first MaxSheets; the empty one is the home's.
	s := At(api.Cell{Sheet: 2}, "S", "T", "S", "", "s")
	for name, want := range map[string]int{"": 2, "S": 0, "T": 1, "s": 4, "U": -1} {
		if got := s.Sheet(name); got != want {
			t.Errorf("Sheet(%q): %d", name, got)
		}
	}
	var many []string
	for i := range api.MaxSheets + 2 {
		many = append(many, fmt.Sprint("N", i))
	}
	s = At(api.Cell{Sheet: 15}, many...)
	if s.Sheet("N15") != 15 || s.Sheet("N16") != -1 || s.Sheet("") != 15 {
		t.Error(s.Sheet("N15"), s.Sheet("N16"), s.Sheet(""))
	}
}

func TestCellsAndAreas(t *testing.T) { // Promise 8.4: an area is the rectangle of its two corners.
	s := At(api.Cell{Sheet: 1, Row: 50}, "S", "T", "U")
	for text, want := range map[string]api.Cell{"C2": {Sheet: 1, Row: 1, Col: 2}, "S!$C$2": {Row: 1, Col: 2}, "U!IV65536": {Sheet: 2, Row: 65535, Col: 255}} {
		if got := s.Cell(row(t, text)[0].A); got != want {
			t.Errorf("%s: %v", text, got)
		}
	}
	for text, want := range map[string]api.Area{
		"B2:D3": {Sheet: 1, Top: 1, Left: 1, Bottom: 2, Right: 3}, "S!D3:B2": {Top: 1, Left: 1, Bottom: 2, Right: 3}, "U!$B3:D$2": {Sheet: 2, Top: 1, Left: 1, Bottom: 2, Right: 3}, "T!A1:A1": {Sheet: 1},
	} {
		n := row(t, text)[0]
		if got := s.Area(n); got != want {
			t.Errorf("%s: %v", text, got)
		}
		want.Sheet = 0
		if got := Rectangle(n); got != want || Rows(got) != want.Bottom-want.Top+1 || Cols(got) != want.Right-want.Left+1 {
			t.Errorf("%s: the rectangle %v", text, got)
		}
	}
	if a := (api.Area{Top: 2, Bottom: 10, Left: 3, Right: 4}); Rows(a) != 9 || Cols(a) != 2 {
		t.Error(Rows(a), Cols(a))
	}
}
