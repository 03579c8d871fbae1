package marks

import (
	"fmt"
	"slices"
	"strings"
	"testing"

	"whittle/api"
	"whittle/place"
)

// at is a cell by its name, with T! or U! ahead of one of the sheet 1 or 2.
func at(name string) api.Cell {
	sheet := 0
	for i, head := range []string{"T!", "U!"} {
		if rest, ok := strings.CutPrefix(name, head); ok {
			sheet, name = i+1, rest
		}
	}
	row, col, ok := place.Read(name)
	if !ok {
		panic("no cell: " + name)
	}
	return api.Cell{Sheet: sheet, Row: row, Col: col}
}

// list is cells by their names, with blanks between.
func list(names string) []api.Cell {
	var l []api.Cell
	for _, name := range strings.Fields(names) {
		l = append(l, at(name))
	}
	return l
}

// names is the other way round.
func names(l []api.Cell) string {
	var s []string
	for _, c := range l {
		name := place.Name(c)
		if c.Sheet < 0 || c.Sheet > 2 || name == "" {
			name = fmt.Sprint(c)
		} else {
			name = []string{"", "T!", "U!"}[c.Sheet] + name
		}
		s = append(s, name)
	}
	return strings.Join(s, " ")
}

// put is a change of a cell, by its name.
func put(name, text string) api.Change { return api.Change{Cell: at(name), Text: text} }

// puts are changes: names and texts by turns.
func puts(l ...string) []api.Change {
	var changes []api.Change
	for i := 0; i < len(l); i += 2 {
		changes = append(changes, put(l[i], l[i+1]))
	}
	return changes
}

// opened is marks of the sheets S, T and U in which one edit was done: names and texts by turns.
func opened(t *testing.T, l ...string) *Marks {
	t.Helper()
	m, why := New("S", "T", "U")
	if m == nil || why != api.OK {
		t.Fatalf("New: %d", why)
	}
	if len(l) > 0 {
		edited(t, m, l...)
	}
	return m
}

// settled is marks as opened's, all of them done.
func settled(t *testing.T, l ...string) *Marks {
	t.Helper()
	m := opened(t, l...)
	settle(t, m)
	return m
}

// settle does whatever is ready, the first cell first, until nothing is stale: as many as were.
func settle(t *testing.T, m *Marks) {
	t.Helper()
	for n := m.Count(); n > 0; n-- {
		if why := m.Done(firstReady(t, m)); why != api.OK || m.Count() != n-1 {
			t.Fatalf("Done: %d, %d are stale, %d were", why, m.Count(), n)
		}
	}
}

// firstReady is the first of all ready cells; there must be one.
func firstReady(t *testing.T, m *Marks) api.Cell {
	t.Helper()
	l := all(m, m.ReadyOf)
	if len(l) == 0 {
		t.Fatalf("nothing is ready, stale are %s", names(all(m, m.StaleOf)))
	}
	return l[0]
}

// all is what a call tells of each sheet, one behind the other.
func all(m *Marks, of func(int) []api.Cell) []api.Cell {
	var l []api.Cell
	for sheet := range m.Sheets() {
		l = append(l, of(sheet)...)
	}
	return l
}

// taken is an edit that must be accepted.
func taken(t *testing.T, m *Marks, changes ...api.Change) {
	t.Helper()
	ahead := m.Version()
	if r := m.Edit(changes...); r != (api.Refusal{}) {
		t.Fatalf("Edit(%.300q): %v", fmt.Sprint(changes), r)
	}
	if m.Version() != ahead+1 {
		t.Fatalf("version %d behind an edit, %d ahead", m.Version(), ahead)
	}
}

// edited is an edit that must be accepted: names and texts by turns.
func edited(t *testing.T, m *Marks, l ...string) {
	t.Helper()
	taken(t, m, puts(l...)...)
}

// done does cells that must be ready, one behind the other.
func done(t *testing.T, m *Marks, cells string) {
	t.Helper()
	for _, c := range list(cells) {
		if why := m.Done(c); why != api.OK {
			t.Fatalf("Done(%s): %d", names([]api.Cell{c}), why)
		}
	}
}

// notReady holds that cells are not ready, and that Done of them turns nothing.
func notReady(t *testing.T, m *Marks, cells ...api.Cell) {
	t.Helper()
	ahead := tells(m)
	for _, c := range cells {
		if why := m.Done(c); why != api.ErrReady || m.Ready(c) {
			t.Errorf("Done(%s): %d; ready: %v", names([]api.Cell{c}), why, m.Ready(c))
		}
	}
	if tells(m) != ahead {
		t.Errorf("a refused Done has turned what is told: %s, ahead %s", tells(m), ahead)
	}
}

// are holds which cells are stale, and which of them ready, by each call that tells it.
func are(t *testing.T, m *Marks, stale, ready string) {
	t.Helper()
	s, r := list(stale), list(ready)
	if got := names(all(m, m.StaleOf)); got != stale {
		t.Errorf("StaleOf: %s, want %s", got, stale)
	}
	if got := names(all(m, m.ReadyOf)); got != ready {
		t.Errorf("ReadyOf: %s, want %s", got, ready)
	}
	if m.Count() != len(s) {
		t.Errorf("Count: %d, want %d", m.Count(), len(s))
	}
	for _, c := range slices.Concat(s, r, strange(), universe()) {
		if m.Stale(c) != slices.Contains(s, c) || m.Ready(c) != slices.Contains(r, c) {
			t.Errorf("%s: Stale %v, Ready %v", names([]api.Cell{c}), m.Stale(c), m.Ready(c))
		}
	}
}

// lastIs holds what Last tells.
func lastIs(t *testing.T, m *Marks, stale, fresh string) {
	t.Helper()
	if l := m.Last(); names(l.Stale) != stale || names(l.Fresh) != fresh {
		t.Errorf("Last: %s; %s, want %s; %s", names(l.Stale), names(l.Fresh), stale, fresh)
	}
}

// strange are cells that no book of three sheets has.
func strange() []api.Cell {
	const least, most = -1 << 63, 1<<63 - 1
	l := []api.Cell{{Sheet: 3}, {Sheet: -1, Row: -1, Col: -1}}
	for _, n := range []int{-1, api.MaxSheets, least, most} {
		l = append(l, api.Cell{Sheet: n})
	}
	for _, n := range []int{-1, api.MaxRows, least, most} {
		l = append(l, api.Cell{Row: n})
	}
	for _, n := range []int{-1, api.MaxCols, least, most} {
		l = append(l, api.Cell{Col: n})
	}
	return l
}

// oddSheets are numbers of no sheet, if there are three.
func oddSheets() []int { return []int{-1 << 63, -1, 3, api.MaxSheets, 1<<63 - 1} }

// graphTeller is what a graph tells, and marks by promotion.
type graphTeller interface {
	Sheets() []string
	Sheet(name string) int
	Version() int
	Kind(c api.Cell) int
	Text(c api.Cell) string
	Constant(c api.Cell) api.Value
	Code(c api.Cell) []api.Ins
	Uses(c api.Cell) []api.Area
	Cells(sheet int) []api.Cell
	Len() int
	Users(c api.Cell) []api.Cell
	Reach(cs ...api.Cell) []api.Cell
	Cyclic(c api.Cell) bool
	Level(c api.Cell) int
	Path(from, to api.Cell) []api.Cell
	Circle(c api.Cell) []api.Cell
}

// tellsGraph is all that a graph, or marks as one, tells of the universe and of what is no cell.
func tellsGraph(g graphTeller) string {
	var s strings.Builder
	fmt.Fprintf(&s, "%q %d %d %d %d\n", g.Sheets(), g.Version(), g.Len(), g.Sheet("T"), g.Sheet("nobody"))
	for sheet := -1; sheet <= api.MaxSheets; sheet++ {
		fmt.Fprintln(&s, g.Cells(sheet))
	}
	cells := append(strange(), universe()...)
	for _, c := range cells {
		fmt.Fprintf(&s, "%v %d %q %v %v %v\n", c, g.Kind(c), g.Text(c), g.Constant(c), g.Code(c), g.Uses(c))
		fmt.Fprintf(&s, "%v %v %v %d %v %v %v\n", g.Users(c), g.Reach(c), g.Cyclic(c), g.Level(c), g.Circle(c), g.Path(at("A1"), c), g.Path(c, c))
	}
	fmt.Fprintln(&s, g.Reach(), g.Reach(cells...))
	return s.String()
}

// tells is all that marks tell beside what their graph does.
func tells(m *Marks) string { return fmt.Sprint(m.Last()) + tellsFlags(m) }

// tellsFlags is that without Last.
func tellsFlags(m *Marks) string {
	var s strings.Builder
	fmt.Fprintln(&s, m.Count())
	for sheet := -1; sheet <= api.MaxSheets; sheet++ {
		fmt.Fprintln(&s, m.StaleOf(sheet), m.ReadyOf(sheet))
	}
	for _, c := range append(strange(), universe()...) {
		fmt.Fprintln(&s, c, m.Stale(c), m.Ready(c))
	}
	return s.String()
}

// tellsAll is all that marks tell.
func tellsAll(m *Marks) string { return tellsGraph(m) + tells(m) }

// stateOf is the state of marks, with something in all that is not looked at.
func stateOf(m *Marks) api.State {
	s := api.State{Sheets: m.Sheets(), Version: m.Version()}
	for _, c := range all(m, m.Cells) {
		s.Cells = append(s.Cells, api.Held{Cell: c, Text: m.Text(c), Stale: m.Stale(c), V: api.Value{Kind: -3}, Ever: c.Row%2 == 0, Version: -7})
	}
	s.Views = [][]api.Area{{{Sheet: -1}}}
	s.Frames = []api.Flight{{On: true, Cell: api.Cell{Sheet: -7}}}
	return s
}

// restored is the marks of a state that must be right.
func restored(t *testing.T, s api.State) *Marks {
	t.Helper()
	m, why := Restore(s)
	if m == nil || why != api.OK {
		t.Fatalf("Restore(%.500q): %d", fmt.Sprint(s), why)
	}
	return m
}

// roomy is a list with spare room in which something stands, and the whole of it.
func roomy[E any](l []E, spare ...E) (short, whole []E) {
	whole = append(slices.Clone(l), spare...)
	return whole[:len(l)], whole
}

// fill writes over a list, its spare room too.
func fill[E any](l []E, with E) {
	l = l[:cap(l)]
	for i := range l {
		l[i] = with
	}
}
