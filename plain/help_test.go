package plain

import (
	"fmt"
	"slices"
	"strconv"
	"strings"
	"testing"

	"whittle/api"
	"whittle/code"
	"whittle/graph"
	"whittle/machine"
	"whittle/place"
	"whittle/tree"
	"whittle/value"
)

func n(x int) api.Value { return part(x, 1) }

// part is the Number x by y, in lowest terms.
func part(x, y int) api.Value { return api.Value{Kind: api.Number, Num: api.Num{N: x, D: y}} }

func txt(s string) api.Value { return api.Value{Kind: api.Text, Text: s} }

func truth(b bool) api.Value { return api.Value{Kind: api.Truth, True: b} }

func bad(code int) api.Value { return api.Value{Kind: api.Fault, Fault: code} }

var blank = api.Value{}

// names are the sheets of the tests' books.
var names = []string{"S", "T", "U"}

// home is where the formulas stand that are asked for by Eval.
var home = api.Cell{Row: 98, Col: 25}

// at is a cell by its name, with T! or U! ahead of one of the sheet 1 or 2.
func at(name string) api.Cell {
	sheet := 0
	if i := slices.Index(names, name[:1]); strings.Contains(name, "!") {
		sheet, name = i, name[2:]
	}
	row, col, ok := place.Read(name)
	if !ok {
		panic("no cell: " + name)
	}
	return api.Cell{Sheet: sheet, Row: row, Col: col}
}

// puts are changes: names and texts by turns.
func puts(l ...string) []api.Change {
	var changes []api.Change
	for i := 0; i < len(l); i += 2 {
		changes = append(changes, api.Change{Cell: at(l[i]), Text: l[i+1]})
	}
	return changes
}

// taken lays changes, as many an edit as one takes.
func taken(t *testing.T, g *graph.Graph, changes ...api.Change) {
	t.Helper()
	for l := range slices.Chunk(changes, api.MaxBatch) {
		if r := g.Edit(l...); r != (api.Refusal{}) {
			t.Fatalf("Edit(%.300q): %v", fmt.Sprint(l), r)
		}
	}
}

// opened is a graph with these contents: names and texts by turns.
func opened(t *testing.T, l ...string) *graph.Graph {
	t.Helper()
	g, why := graph.New(names...)
	if why != api.OK {
		t.Fatalf("New: %d", why)
	}
	taken(t, g, puts(l...)...)
	return g
}

// values is what comes of these contents: names and texts by turns.
func values(t *testing.T, l ...string) *Values {
	t.Helper()
	return Of(opened(t, l...))
}

// row is the tree of a formula.
func row(t *testing.T, s string) []api.Node {
	t.Helper()
	l, why, place := tree.Parse(s)
	if why != api.OK {
		t.Fatalf("Parse(%q): %d at %d", s, why, place)
	}
	return l
}

// text is the other way round.
func text(l []api.Node) string {
	s, _ := tree.Print(l)
	return s
}

// shown is a value in words: _ is Blank, texts stand in quotes.
func shown(v api.Value) string {
	switch v.Kind {
	case api.Blank:
		return "_"
	case api.Text:
		return strconv.Quote(v.Text)
	}
	return value.Show(v)
}

// strange are cells that no book has.
func strange() []api.Cell {
	const least, most = -1 << 63, 1<<63 - 1
	l := []api.Cell{{Sheet: -1, Row: -1, Col: -1}, {Sheet: most, Row: most, Col: most}}
	for _, k := range []int{-1, api.MaxSheets, least, most} {
		l = append(l, api.Cell{Sheet: k})
	}
	for _, k := range []int{-1, api.MaxRows, least, most} {
		l = append(l, api.Cell{Row: k})
	}
	for _, k := range []int{-1, api.MaxCols, least, most} {
		l = append(l, api.Cell{Col: k})
	}
	return l
}

// run is a code's run over values: what it comes to, and in how many steps.
func run(t *testing.T, l []api.Ins, p *Values) (api.Value, int) {
	t.Helper()
	f, why := machine.New(l)
	if why != api.OK {
		t.Fatalf("%v is no code", l)
	}
	for !f.Done() {
		v := bad(api.FaultLong) // it is not looked at
		if c, wants := f.Wants(); wants {
			v = p.Value(c)
		}
		f.Step(v)
	}
	v, _ := f.Result()
	return v, f.Steps()
}

// runsSo holds that a code comes to a value in so many steps, which lie within its bounds.
func runsSo(t *testing.T, l []api.Ins, p *Values, want api.Value, cost int) {
	t.Helper()
	v, steps := run(t, l, p)
	least, most := code.Bounds(l)
	if v != want || steps != cost || cost < least || cost > most {
		t.Errorf("the code %v comes to %s in %d steps of %d to %d, not to %s in %d", l, shown(v), steps, least, most, shown(want), cost)
	}
}

// codesComeTo holds that the code of each formula of a book that is not cyclic comes to its cell's value, in its cost's steps.
func codesComeTo(t *testing.T, g *graph.Graph, p *Values) {
	t.Helper()
	for sheet := range g.Sheets() {
		for _, c := range g.Cells(sheet) {
			if g.Kind(c) == api.Formula && !g.Cyclic(c) {
				runsSo(t, g.Code(c), p, p.Value(c), p.Cost(c))
			}
		}
	}
}

// evals holds what a formula comes to (in words), in how many steps, by Eval and by its code.
func evals(t *testing.T, p *Values, s, want string, steps int) {
	t.Helper()
	l := row(t, s)
	v, got, why := p.Eval(l, home, names...)
	if shown(v) != want || got != steps || why != api.OK {
		t.Errorf("Eval(%s): %s in %d steps, %d; want %s in %d", s, shown(v), got, why, want, steps)
		return
	}
	list, why := code.Flatten(l, home, names...)
	if why != api.OK {
		t.Fatalf("Flatten(%s): %d", s, why)
	}
	runsSo(t, list, p, v, steps)
}

// rowsOf are lines of a formula, what it comes to, and in how many steps, with | between, held by evals.
func rowsOf(t *testing.T, p *Values, lines string) {
	t.Helper()
	for line := range strings.Lines(strings.TrimSpace(lines)) {
		l := strings.Split(strings.TrimSpace(line), " | ")
		steps, err := strconv.Atoi(l[len(l)-1])
		if len(l) != 3 || err != nil {
			t.Fatalf("no line: %q", line)
		}
		evals(t, p, l[0], l[1], steps)
	}
}

// cellIs holds what a cell comes to (in words) and its cost.
func cellIs(t *testing.T, p *Values, name, want string, cost int) {
	t.Helper()
	if v, got := p.Value(at(name)), p.Cost(at(name)); shown(v) != want || got != cost {
		t.Errorf("%s: %s, cost %d; want %s, %d", name, shown(v), got, want, cost)
	}
}

// told is all that is told of a book's cells, and of some that are none.
func told(p *Values, g *graph.Graph) string {
	var s strings.Builder
	cells := strange()
	for sheet := range api.MaxSheets {
		cells = append(cells, g.Cells(sheet)...)
		cells = append(cells, api.Cell{Sheet: sheet, Row: 77, Col: 7})
	}
	for _, c := range cells {
		fmt.Fprintln(&s, c, p.Value(c), p.Cost(c))
	}
	fmt.Fprintln(&s, p.Total())
	return s.String()
}
