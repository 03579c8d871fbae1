package plain

import (
	"math"
	"math/rand"
	"slices"
	"testing"

	"whittle/api"
	"whittle/code"
	"whittle/funcs"
)

// refused holds that Eval is refused as code.Flatten is, and answers nothing else.
func refused(t *testing.T, p *Values, l []api.Node, home api.Cell, want api.Errno, sheets ...string) {
	t.Helper()
	if _, why := code.Flatten(l, home, sheets...); why != want {
		t.Fatalf("Flatten of %v in %v says %d, not %d", l, home, why, want)
	}
	if v, steps, why := p.Eval(l, home, sheets...); v != blank || steps != 0 || why != want {
		t.Fatalf("Eval of %v in %v: %s in %d steps, %d, not %d", l, home, shown(v), steps, why, want)
	}
}

func TestRefusedFormulas(t *testing.T) { // Promise 13.2: each error of code.Flatten, also of what is never come to.
	p := fixture(t)
	for s, why := range map[string]api.Errno{
		"A1:B2": api.ErrArea, "A1:B2+1": api.ErrArea, "-A1:B2": api.ErrArea, "MATCH(1,2)": api.ErrArea, "ABS(A1:B2)": api.ErrArea, "IF(A1:B2,1)": api.ErrArea, "INDEX(A1,1)": api.ErrArea,
		"SUM()": api.ErrArity, "NA(1)": api.ErrArity, "1+ABS()": api.ErrArity, "INDEX(A1:A2,1,1,1)": api.ErrArity, "SUMM(1)": api.ErrName, "TRUE()": api.ErrName, "X!A1": api.ErrSheet, "ROWS(X!A1:A2)": api.ErrSheet, "SUM(X!A1:A2)": api.ErrSheet,
		"SUMPRODUCT(A1:A2,A1:B1)": api.ErrShape, "LOOKUP(1/0,A1:A2,A1:A3)": api.ErrShape, "SUMIF(A1:A2,1/0,A1:A3)": api.ErrShape,
		"IF(TRUE,1,F())": api.ErrName, "IF(TRUE,1,X!A1)": api.ErrSheet, "IF(FALSE,A1:A2,1)": api.ErrArea, "IF(\"x\",SUM(),1)": api.ErrArity, "IFERROR(1,X!A1)": api.ErrSheet,
		"CHOOSE(1,2,F())": api.ErrName, "CHOOSE(9,1,SUMPRODUCT(A1:A2,A1:B1))": api.ErrShape, "MATCH(1/0,X!A1:A9)": api.ErrSheet, "SUM(1/0,X!A1:A9)": api.ErrSheet,
	} {
		refused(t, p, row(t, s), home, why, names...)
	}
}

func TestRefusedHomes(t *testing.T) { // Promise 13.2: homes that are no cells, or on no sheet.
	p := fixture(t)
	for _, s := range []string{"1", "A1", "IF(1,2,A1)", "F()"} {
		l := row(t, s)
		for _, c := range []api.Cell{{Sheet: -1}, {Sheet: api.MaxSheets}, {Row: -1}, {Row: api.MaxRows}, {Col: -1}, {Col: api.MaxCols}, {Sheet: math.MinInt}, {Row: math.MaxInt}} {
			refused(t, p, l, c, api.ErrCell, names...)
			refused(t, p, l, c, api.ErrCell)
		}
		refused(t, p, l, api.Cell{}, api.ErrSheet)
		refused(t, p, l, api.Cell{Sheet: 1}, api.ErrSheet, "S")
		refused(t, p, l, api.Cell{Sheet: 15}, api.ErrSheet, names...)
	}
	// The book's own names are not asked: just those that are handed in.
	refused(t, p, row(t, "T!A1"), api.Cell{}, api.ErrSheet, "S", "t")
	refused(t, p, row(t, "T!A1"), api.Cell{Sheet: 2}, api.ErrSheet, "S", "X", "U")
}

func TestRefusedRows(t *testing.T) { // Promise 13.2: the error of tree.Check, ahead of all others.
	p := fixture(t)
	v, neg := row(t, "1")[0], api.Node{Kind: api.NodeUn, Op: api.OpNeg}
	for _, l := range [][]api.Node{nil, {}, {{}}, {v, v}, {neg}, {{Kind: api.NodeBin, Op: api.OpAdd}, v}, {{Kind: api.NodeUn, Op: 9}, v}, {{Kind: api.NodeCall, Name: "sum", Args: 1}, v}, {{Kind: api.NodeCall, Name: "SUM", Args: 2}, v}, {{Kind: api.NodeCall, Name: "IF", Args: -1}}, {{Kind: api.NodeValue}}, {{Kind: api.NodeValue, V: n(-1)}}, {{Kind: api.NodeCell, A: api.Ref{Row: -1}}}, {{Kind: api.NodeArea, B: api.Ref{Sheet: "S"}}}, {{Kind: 7}}} {
		refused(t, p, l, home, api.ErrTree, "S")
		refused(t, p, l, api.Cell{Row: -1}, api.ErrTree)
	}
	refused(t, p, append(slices.Repeat([]api.Node{neg}, api.MaxDeep), v), home, api.ErrDeep, "S")
	refused(t, p, make([]api.Node, api.MaxNodes+1), home, api.ErrNodes, "S")
}

// spoil turns one or two nodes of a formula into others.
func spoil(k maker, l []api.Node) {
	for range 1 + k.Intn(2) {
		node := &l[k.Intn(len(l))]
		switch node.Kind {
		case api.NodeCell, api.NodeArea:
			node.A.Sheet = []string{"X", "T", "16"}[k.Intn(3)]
		case api.NodeValue:
			*node = k.area()
		case api.NodeCall:
			all := funcs.All()
			node.Name = append([]string{"F", "SUMM"}, all[k.Intn(len(all))].Name)[k.Intn(3)]
			if k.Intn(8) == 0 {
				node.Args++
			}
		}
	}
}

func TestRefusedAsCodeDoes(t *testing.T) { // Promise 13.2: of very many formulas with something wrong in them.
	p := fixture(t)
	k := maker{rand.New(rand.NewSource(132)), api.Cell{Sheet: 1, Row: 5}}
	tally := map[api.Errno]int{}
	for range 8000 {
		l := k.formula(2 + k.Intn(4))
		spoil(k, l)
		_, want := code.Flatten(l, k.home, names...)
		tally[want]++
		if want != api.OK {
			refused(t, p, l, k.home, want, names...)
		} else if _, steps, why := p.Eval(l, k.home, names...); why != api.OK || steps < 2 {
			t.Fatalf("Eval of %s: %d steps, %d", text(l), steps, why)
		}
	}
	for _, why := range []api.Errno{api.OK, api.ErrSheet, api.ErrArea, api.ErrName, api.ErrArity, api.ErrShape, api.ErrTree} {
		if tally[why] < 100 {
			t.Error("just", tally[why], "with", why)
		}
	}
}

func TestRefusedTurnsNothing(t *testing.T) { // R5: behind refusals all is told as ahead.
	g := opened(t, "A1", "2", "B1", "=A1*3", "C1", "=C1")
	p := Of(g)
	was := told(p, g)
	refused(t, p, row(t, "F(A1)"), home, api.ErrName, names...)
	refused(t, p, nil, home, api.ErrTree, names...)
	refused(t, p, row(t, "A1"), api.Cell{Row: -1}, api.ErrCell, names...)
	if told(p, g) != was {
		t.Error(told(p, g), "not", was)
	}
	evals(t, p, "SUM(A1:B1)", "8", 5)
}
