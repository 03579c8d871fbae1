package lean

import (
	"fmt"
	"math"
	"math/rand"
	"slices"
	"testing"

	"whittle/api"
	"whittle/code"
	"whittle/funcs"
	"whittle/tree"
)

// refused holds that both calls refuse a formula as code.Flatten does.
func refused(t *testing.T, l []api.Node, home api.Cell, want api.Errno, sheets ...string) {
	t.Helper()
	if _, why := code.Flatten(l, home, sheets...); why != want {
		t.Fatalf("code.Flatten of %v in %v says %d, not %d", l, home, why, want)
	}
	if got, why := Flatten(l, home, sheets...); len(got) != 0 || why != want {
		t.Fatalf("Flatten of %v in %v is %s, %d, not %d", l, home, told(got), why, want)
	}
	if v, ok := Const(l, home, sheets...); v != blank || ok {
		t.Fatalf("Const of %v in %v is %s, %t", l, home, shown(v), ok)
	}
}

func TestRefusedFormulas(t *testing.T) { // Promises 10.2, 10.3: each error of code.Flatten, also of what is never come to.
	for s, why := range map[string]api.Errno{
		"A1:B2": api.ErrArea, "A1:B2+1": api.ErrArea, "-A1:B2": api.ErrArea, "MATCH(1,2)": api.ErrArea, "ABS(A1:B2)": api.ErrArea, "IF(A1:B2,1)": api.ErrArea,
		"SUM()": api.ErrArity, "NA(1)": api.ErrArity, "1+ABS()": api.ErrArity, "SUMM(1)": api.ErrName, "TRUE()": api.ErrName, "X!A1": api.ErrSheet, "ROWS(X!A1:A2)": api.ErrSheet,
		"SUMPRODUCT(A1:A2,A1:B1)": api.ErrShape, "LOOKUP(1/0,A1:A2,A1:A3)": api.ErrShape, "SUMIF(A1:A2,1/0,A1:A3)": api.ErrShape,
		"IF(TRUE,1,F())": api.ErrName, "IF(TRUE,1,X!A1)": api.ErrSheet, "IF(FALSE,A1:A2,1)": api.ErrArea, "IF(\"x\",SUM(),1)": api.ErrArity, "IFERROR(1,X!A1)": api.ErrSheet, "IFERROR(1,ABS())": api.ErrArity,
		"CHOOSE(1,2,F())": api.ErrName, "CHOOSE(0,X!A1)": api.ErrSheet, "CHOOSE(9,1,SUMPRODUCT(A1:A2,A1:B1))": api.ErrShape, "INDEX(X!A1:A2,9)": api.ErrSheet, "INDEX(X!A1:A2,1)": api.ErrSheet, "INDEX(A1,1)": api.ErrArea, "INDEX(A1:A2,1,1,1)": api.ErrArity,
		"MATCH(1/0,X!A1:A9)": api.ErrSheet, "MATCH(1/0,A1)": api.ErrArea, "COUNTIF(X!A1:A9,#N/A)": api.ErrSheet,
	} {
		refused(t, row(t, s), home, why, "S", "T")
	}
}

func TestRefusedHomes(t *testing.T) { // Promises 10.2, 10.3: homes that are no cells, or on no sheet; of values, too.
	for _, s := range []string{"1", "A1", "IF(1,2,A1)", "F()"} {
		l := row(t, s)
		for _, c := range []api.Cell{{Sheet: -1}, {Sheet: api.MaxSheets}, {Row: -1}, {Row: api.MaxRows}, {Col: -1}, {Col: api.MaxCols}, {Sheet: math.MinInt}, {Row: math.MaxInt}} {
			refused(t, l, c, api.ErrCell, "S", "T")
			refused(t, l, c, api.ErrCell)
		}
		refused(t, l, api.Cell{}, api.ErrSheet)
		refused(t, l, api.Cell{Sheet: 1}, api.ErrSheet, "S")
		refused(t, l, api.Cell{Sheet: 15}, api.ErrSheet, "S", "T")
	}
}

func TestRefusedRows(t *testing.T) { // Promises 10.2, 10.3: the error of tree.Check.
	v, neg := row(t, "1")[0], api.Node{Kind: api.NodeUn, Op: api.OpNeg}
	for _, l := range [][]api.Node{nil, {}, {{}}, {v, v}, {neg}, {{Kind: api.NodeBin, Op: api.OpAdd}, v}, {{Kind: api.NodeCall, Name: "sum", Args: 1}, v}, {{Kind: api.NodeCall, Name: "SUM", Args: 2}, v}, {{Kind: api.NodeCall, Name: "SUM", Args: 31}}, {{Kind: api.NodeCall, Name: "IF", Args: -1}}, {{Kind: api.NodeValue}}, {{Kind: api.NodeValue, V: n(-1)}}, {{Kind: api.NodeValue, V: part(1, 3)}}, {{Kind: api.NodeCell, A: api.Ref{Row: -1}}}, {{Kind: api.NodeArea, B: api.Ref{Sheet: "S"}}}, {{Kind: 7}}, {{Kind: -1}}} {
		refused(t, l, home, api.ErrTree, "S")
		refused(t, l, api.Cell{Row: -1}, api.ErrTree)
	}
	deep := append(slices.Repeat([]api.Node{neg}, api.MaxDeep), v)
	refused(t, deep, home, api.ErrDeep, "S")
	refused(t, make([]api.Node, api.MaxNodes+1), home, api.ErrNodes, "S")
}

func TestSheets(t *testing.T) { // Promise 10.3: a sheet's number is code.Flatten's, of what was picked, too.
	at := func(s string, sheet int, want string, names ...string) {
		t.Helper()
		if l, why := Flatten(row(t, s), api.Cell{Sheet: sheet}, names...); told(l) != want || why != api.OK {
			t.Errorf("Flatten of %s in %d of %q is %s, %d, not %s", s, sheet, names, told(l), why, want)
		}
	}
	for _, s := range []string{"%sB1", "INDEX(%sA1:B2,2)", "IF(0,1,%sB1)", "INDEX(%sA1:B2,1,2)"} {
		own, named := fmt.Sprintf(s, ""), fmt.Sprintf(s, "S!")
		at(own, 0, "load B1; store", "S", "S")
		at(own, 1, "load 1!B1; store", "S", "S")
		at(named, 1, "load B1; store", "S", "S")
		at(named, 2, "load 1!B1; store", "X", "S", "S")
		at(own, 2, "load 2!B1; store", "S", "", "X")
		var many []string
		for i := range api.MaxSheets + 4 {
			many = append(many, fmt.Sprint("N", i))
		}
		at(fmt.Sprintf(s, "N15!"), 3, "load 15!B1; store", many...)
		refused(t, row(t, fmt.Sprintf(s, "N16!")), api.Cell{}, api.ErrSheet, many...)
		refused(t, row(t, named), api.Cell{}, api.ErrSheet, "s", "T")
	}
}

// spoil turns one or two nodes of a formula into others.
func spoil(r *rand.Rand, l []api.Node) {
	for range 1 + r.Intn(2) {
		node := &l[r.Intn(len(l))]
		switch node.Kind {
		case api.NodeCell, api.NodeArea:
			node.A.Sheet = []string{"X", "T", "16"}[r.Intn(3)]
		case api.NodeValue:
			*node = someArea(r)
		case api.NodeCall:
			all := funcs.All()
			node.Name = append([]string{"F", "SUMM"}, all[r.Intn(len(all))].Name)[r.Intn(3)]
			if r.Intn(8) == 0 {
				node.Args++
			}
		}
	}
}

func TestRefusedAsCodeDoes(t *testing.T) { // Promises 10.2, 10.3: of very many formulas with something wrong in them.
	r := rand.New(rand.NewSource(102))
	tally := map[api.Errno]int{}
	for range 10000 {
		l := someFormula(r, 2+r.Intn(4))
		spoil(r, l)
		_, want := code.Flatten(l, home, "S", "T")
		tally[want]++
		if want != api.OK {
			refused(t, l, home, want, "S", "T")
		} else if _, why := Flatten(l, home, "S", "T"); why != api.OK {
			text, _ := tree.Print(l)
			t.Fatalf("Flatten of %s says %d", text, why)
		}
	}
	for _, why := range []api.Errno{api.OK, api.ErrSheet, api.ErrArea, api.ErrName, api.ErrArity, api.ErrShape, api.ErrTree} {
		if tally[why] < 100 {
			t.Error("just", tally[why], "with", why)
		}
	}
}
