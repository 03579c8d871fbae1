package plain

import (
	"math/rand"
	"slices"
	"strings"
	"testing"

	"whittle/api"
	"whittle/code"
	"whittle/funcs"
	"whittle/graph"
)

// maker makes formulas and contents: those of a cell name, mostly, cells ahead of it, so that not all lies on circles.
type maker struct {
	*rand.Rand
	home api.Cell
}

// ref names a cell of the sheets S, T and U, six rows and three columns of each.
func (k maker) ref() api.Ref {
	r := api.Ref{Row: k.Intn(6), Col: k.Intn(3), FixRow: k.Intn(2) > 0, FixCol: k.Intn(2) > 0}
	r.Sheet = []string{"", "", "", "S", "T", "U"}[k.Intn(6)]
	if k.Intn(40) > 0 {
		if r.Sheet != "" {
			r.Sheet = names[k.Intn(k.home.Sheet+1)]
		}
		r.Row = k.Intn(max(k.home.Row, 1))
	}
	return r
}

// area is one of two shapes, by any two corners.
func (k maker) area() api.Node {
	a := k.ref()
	b := api.Ref{Row: a.Row, Col: a.Col, FixRow: k.Intn(2) > 0}
	if k.Intn(5) > 0 {
		b.Row, b.Col = max(b.Row-1, 0), b.Col+1
		if a.Row == 0 {
			b.Row = 1
		}
	}
	if k.Intn(2) > 0 {
		a.Row, b.Row = b.Row, a.Row
	}
	if k.Intn(2) > 0 {
		a.Col, b.Col = b.Col, a.Col
	}
	return api.Node{Kind: api.NodeArea, A: a, B: b}
}

func (k maker) leaf() []api.Node {
	if k.Intn(5) < 3 {
		return []api.Node{{Kind: api.NodeCell, A: k.ref()}}
	}
	vs := []api.Value{n(0), n(1), n(1), n(2), n(2), n(3), n(4), part(1, 2), txt(""), txt("a"), txt("1"), txt(">1"), txt("<>a"), truth(true), truth(false), bad(api.FaultNA), bad(api.FaultDiv)}
	return []api.Node{{Kind: api.NodeValue, V: vs[k.Intn(len(vs))]}}
}

// formula is one of any sort, so deep at most.
func (k maker) formula(deep int) []api.Node {
	if deep <= 1 || k.Intn(8) == 0 {
		return k.leaf()
	}
	switch k.Intn(8) {
	case 0:
		return append([]api.Node{{Kind: api.NodeUn, Op: 1 + k.Intn(3)}}, k.formula(deep-1)...)
	case 1, 2:
		op := []int{api.OpAdd, api.OpSub, api.OpMul, api.OpDiv, api.OpPow, api.OpJoin, api.OpEq, api.OpNe, api.OpLt, api.OpLe, api.OpGt, api.OpGe}[k.Intn(12)]
		return slices.Concat([]api.Node{{Kind: api.NodeBin, Op: op}}, k.formula(deep-1), k.formula(deep-1))
	}
	all := funcs.All()
	f := all[k.Intn(len(all))]
	if k.Intn(2) == 0 {
		// What is not just worked out of its parts comes more often.
		often := strings.Fields("MATCH COUNTIF SUMIF LOOKUP SUMPRODUCT INDEX IF IF IFERROR IFERROR CHOOSE CHOOSE")
		f, _ = funcs.Of(often[k.Intn(len(often))])
	}
	args := f.Least + k.Intn(min(f.Most-f.Least, 3)+1)
	l := []api.Node{{Kind: api.NodeCall, Name: f.Name, Args: args}}
	for i := range args {
		letter := f.Params[min(i, len(f.Params)-1)]
		if letter == 'a' || letter == 'x' && k.Intn(2) == 0 {
			l = append(l, k.area())
		} else {
			l = append(l, k.formula(deep-1)...)
		}
	}
	return l
}

// right is a formula that code.Flatten takes.
func (k maker) right(deep int) []api.Node {
	for {
		l := k.formula(deep)
		if _, why := code.Flatten(l, k.home, names...); why == api.OK && len(text(l)) < api.MaxContent {
			return l
		}
	}
}

// contents is a text for the home: mostly a constant in the first two rows, which have too little ahead of them, and a formula behind these.
func (k maker) contents() string {
	if (k.home.Row < 2) != (k.Intn(5) == 0) {
		l := []string{"", "0", "1", "2", "3", "1/2", "-1", "a", "'1", "'", "TRUE", "FALSE", "#N/A", "#REF!", "1000000000000"}
		return l[k.Intn(len(l))]
	}
	return "=" + text(k.right(2+k.Intn(3)))
}

// universe are the cells in which the contents of random books stand.
func universe() []api.Cell {
	var l []api.Cell
	for sheet := range names {
		for row := range 6 {
			for col := range 3 {
				l = append(l, api.Cell{Sheet: sheet, Row: row, Col: col})
			}
		}
	}
	return l
}

// randomTexts are contents for some cells of the universe.
func randomTexts(r *rand.Rand) []api.Change {
	var l []api.Change
	for _, c := range universe() {
		if r.Intn(4) > 0 {
			l = append(l, api.Change{Cell: c, Text: maker{r, c}.contents()})
		}
	}
	return l
}

// books calls it with many books of all sorts.
func books(t *testing.T, seed int64, many int, it func(r *rand.Rand, g *graph.Graph)) {
	t.Helper()
	r := rand.New(rand.NewSource(seed))
	for range many {
		g := opened(t)
		taken(t, g, randomTexts(r)...)
		it(r, g)
	}
}

// cellsOf are all cells of a book with contents, in their order.
func cellsOf(g *graph.Graph) []api.Cell {
	var l []api.Cell
	for sheet := range g.Sheets() {
		l = append(l, g.Cells(sheet)...)
	}
	return l
}
