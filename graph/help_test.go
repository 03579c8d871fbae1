package graph

import (
	"fmt"
	"slices"
	"strings"
	"testing"

	"whittle/api"
	"whittle/book"
	"whittle/place"
)

// at is a cell by its name, with T! or U! ahead of one of the sheet 1 or 2.
func at(name string) api.Cell {
	sheet := 0
	for i, head := range []string{"T!", "U!"} {
		if rest, ok := strings.CutPrefix(name, head); ok {
			sheet, name = i+1, rest
		}
	}
	row, col, ok := place.Read(name)
	if !ok {
		panic("no cell: " + name)
	}
	return api.Cell{Sheet: sheet, Row: row, Col: col}
}

// list is cells by their names, with blanks between.
func list(names string) []api.Cell {
	var l []api.Cell
	for _, name := range strings.Fields(names) {
		l = append(l, at(name))
	}
	return l
}

// names is the other way round.
func names(l []api.Cell) string {
	var s []string
	for _, c := range l {
		name := place.Name(c)
		if c.Sheet < 0 || c.Sheet > 2 || name == "" {
			name = fmt.Sprint(c)
		} else {
			name = []string{"", "T!", "U!"}[c.Sheet] + name
		}
		s = append(s, name)
	}
	return strings.Join(s, " ")
}

// put is a change of a cell, by its name.
func put(name, text string) api.Change { return api.Change{Cell: at(name), Text: text} }

// puts are changes: names and texts by turns.
func puts(l ...string) []api.Change {
	var changes []api.Change
	for i := 0; i < len(l); i += 2 {
		changes = append(changes, put(l[i], l[i+1]))
	}
	return changes
}

// opened is a graph of the sheets S, T and U in which one edit was done: names and texts by turns.
func opened(t *testing.T, l ...string) *Graph {
	t.Helper()
	g, why := New("S", "T", "U")
	if g == nil || why != api.OK {
		t.Fatalf("New: %d", why)
	}
	if len(l) > 0 {
		taken(t, g, puts(l...)...)
	}
	return g
}

// taken is an edit that must be accepted.
func taken(t *testing.T, g *Graph, changes ...api.Change) {
	t.Helper()
	ahead := g.Version()
	if r := g.Edit(changes...); r != (api.Refusal{}) {
		t.Fatalf("Edit(%.300q): %v", fmt.Sprint(changes), r)
	}
	if g.Version() != ahead+1 {
		t.Fatalf("version %d behind an edit, %d ahead", g.Version(), ahead)
	}
}

// edited is an edit that must be accepted: names and texts by turns.
func edited(t *testing.T, g *Graph, l ...string) {
	t.Helper()
	taken(t, g, puts(l...)...)
}

// strange are cells that no book has.
func strange() []api.Cell {
	const least, most = -1 << 63, 1<<63 - 1
	var l []api.Cell
	for _, n := range []int{-1, api.MaxSheets, least, most} {
		l = append(l, api.Cell{Sheet: n})
	}
	for _, n := range []int{-1, api.MaxRows, least, most} {
		l = append(l, api.Cell{Row: n})
	}
	for _, n := range []int{-1, api.MaxCols, least, most} {
		l = append(l, api.Cell{Col: n})
	}
	return append(l, api.Cell{Sheet: -1, Row: -1, Col: -1})
}

// usersAre, reachIs, pathIs and circleIs hold what a graph tells, by names, against what is asked for.
func usersAre(t *testing.T, g *Graph, c, want string) {
	t.Helper()
	if got := names(g.Users(at(c))); got != want {
		t.Errorf("Users(%s): %s, want %s", c, got, want)
	}
}

func reachIs(t *testing.T, g *Graph, cs, want string) {
	t.Helper()
	if got := names(g.Reach(list(cs)...)); got != want {
		t.Errorf("Reach(%s): %s, want %s", cs, got, want)
	}
}

func pathIs(t *testing.T, g *Graph, from, to, want string) {
	t.Helper()
	if got := names(g.Path(at(from), at(to))); got != want {
		t.Errorf("Path(%s, %s): %s, want %s", from, to, got, want)
	}
}

func circleIs(t *testing.T, g *Graph, c, want string) {
	t.Helper()
	if got := names(g.Circle(at(c))); got != want {
		t.Errorf("Circle(%s): %s, want %s", c, got, want)
	}
}

// levels holds the levels of cells that are not cyclic: names and levels by turns, with blanks between.
func levels(t *testing.T, g *Graph, want string) {
	t.Helper()
	l := strings.Fields(want)
	for i := 0; i < len(l); i += 2 {
		if got := fmt.Sprint(g.Level(at(l[i]))); got != l[i+1] || g.Cyclic(at(l[i])) {
			t.Errorf("Level(%s): %s, want %s; cyclic: %v", l[i], got, l[i+1], g.Cyclic(at(l[i])))
		}
	}
}

// cyclics holds cells that are cyclic.
func cyclics(t *testing.T, g *Graph, cs string) {
	t.Helper()
	for _, c := range list(cs) {
		if !g.Cyclic(c) || g.Level(c) != 0 {
			t.Errorf("%s is not cyclic, level %d", names([]api.Cell{c}), g.Level(c))
		}
	}
}

// bookTeller is what a book tells, and a graph by promotion.
type bookTeller interface {
	Sheets() []string
	Sheet(name string) int
	Version() int
	Kind(c api.Cell) int
	Text(c api.Cell) string
	Constant(c api.Cell) api.Value
	Code(c api.Cell) []api.Ins
	Uses(c api.Cell) []api.Area
	Cells(sheet int) []api.Cell
	Len() int
}

// tellsBook is all that a book, or a graph as one, tells of some cells and of all that have contents.
func tellsBook(b bookTeller) string {
	var s strings.Builder
	fmt.Fprintf(&s, "%q %d %d\n", b.Sheets(), b.Version(), b.Len())
	cells := append(strange(), universe()...)
	for sheet := -1; sheet <= api.MaxSheets; sheet++ {
		cells = append(cells, b.Cells(sheet)...)
	}
	for _, c := range cells {
		fmt.Fprintf(&s, "%v %d %q %v %v %v\n", c, b.Kind(c), b.Text(c), b.Constant(c), b.Code(c), b.Uses(c))
	}
	for _, name := range append(b.Sheets(), "", "s", "nobody") {
		fmt.Fprintf(&s, "%q %d\n", name, b.Sheet(name))
	}
	return s.String()
}

// tells is all that a graph tells beside what its book does, of these cells and of some that are none.
func tells(g *Graph, cells []api.Cell) string {
	var s strings.Builder
	cells = append(strange(), cells...)
	for _, c := range cells {
		fmt.Fprintf(&s, "%v %v %v %v %d %v\n", c, g.Users(c), g.Reach(c), g.Cyclic(c), g.Level(c), g.Circle(c))
		for _, to := range cells {
			if way := g.Path(c, to); len(way) > 0 {
				fmt.Fprintln(&s, way)
			}
		}
	}
	fmt.Fprintln(&s, g.Reach(), g.Reach(cells...))
	return s.String()
}

// tellsAll is all that a graph tells.
func tellsAll(g *Graph) string { return tellsBook(g) + tells(g, universe()) }

// stateOf is the state of a graph's book, with something in all that is not looked at.
func stateOf(g *Graph) api.State {
	s := api.State{Sheets: g.Sheets(), Version: g.Version()}
	for sheet := range s.Sheets {
		for _, c := range g.Cells(sheet) {
			s.Cells = append(s.Cells, api.Held{Cell: c, Text: g.Text(c), Stale: c.Col%2 == 0, V: api.Value{Kind: -3}, Ever: c.Row%2 == 0, Version: -7})
		}
	}
	s.Views = [][]api.Area{{{Sheet: -1}}}
	s.Frames = []api.Flight{{On: true, Cell: api.Cell{Sheet: -7}}}
	return s
}

// restored is the graph of a graph's state.
func restored(t *testing.T, g *Graph) *Graph {
	t.Helper()
	again, why := Restore(stateOf(g))
	if again == nil || why != api.OK {
		t.Fatalf("Restore: %d", why)
	}
	return again
}

// bookOf is a book in which the same edits were done.
func bookOf(t *testing.T, edits ...[]api.Change) *book.Book {
	t.Helper()
	b, why := book.New("S", "T", "U")
	if why != api.OK {
		t.Fatal(why)
	}
	for _, l := range edits {
		b.Edit(l...)
	}
	return b
}

// sorted is cells by sheet, row and column.
func sorted(l []api.Cell) []api.Cell {
	slices.SortFunc(l, func(a, b api.Cell) int {
		for _, d := range []int{a.Sheet - b.Sheet, a.Row - b.Row, a.Col - b.Col} {
			if d != 0 {
				return d
			}
		}
		return 0
	})
	return l
}
