package view

import (
	"fmt"
	"reflect"
	"slices"
	"strings"
	"testing"

	"whittle/api"
	"whittle/place"
)

// at is a cell by its name, with T! or U! ahead of one of the sheet 1 or 2.
func at(name string) api.Cell {
	sheet := 0
	for i, head := range []string{"T!", "U!"} {
		if rest, ok := strings.CutPrefix(name, head); ok {
			sheet, name = i+1, rest
		}
	}
	row, col, ok := place.Read(name)
	if !ok {
		panic("no cell: " + name)
	}
	return api.Cell{Sheet: sheet, Row: row, Col: col}
}

// area is one by its name, with T! or U! ahead of one of the sheet 1 or 2; a cell's name is an area, too.
func area(name string) api.Area {
	first, last, ok := strings.Cut(name, ":")
	a := at(first)
	b := a
	if ok {
		b = at(last)
	}
	return api.Area{Sheet: a.Sheet, Top: a.Row, Left: a.Col, Bottom: b.Row, Right: b.Col}
}

// areas are those of names with blanks between.
func areas(names string) []api.Area {
	var l []api.Area
	for _, name := range strings.Fields(names) {
		l = append(l, area(name))
	}
	return l
}

// list is cells by their names, with blanks between.
func list(names string) []api.Cell {
	var l []api.Cell
	for _, name := range strings.Fields(names) {
		l = append(l, at(name))
	}
	return l
}

// names is the other way round.
func names(l ...api.Cell) string {
	var s []string
	for _, c := range l {
		name := place.Name(c)
		if c.Sheet < 0 || c.Sheet > 2 || name == "" {
			name = fmt.Sprint(c)
		} else {
			name = []string{"", "T!", "U!"}[c.Sheet] + name
		}
		s = append(s, name)
	}
	return strings.Join(s, " ")
}

func n(x int) api.Value { return api.Value{Kind: api.Number, Num: api.Num{N: x, D: 1}} }

func txt(s string) api.Value { return api.Value{Kind: api.Text, Text: s} }

func truth(b bool) api.Value { return api.Value{Kind: api.Truth, True: b} }

func bad(code int) api.Value { return api.Value{Kind: api.Fault, Fault: code} }

func blank() api.Value { return api.Value{} }

func circle() api.Value { return bad(api.FaultCircle) }

// put is a change of a cell, by its name.
func put(name, text string) api.Change { return api.Change{Cell: at(name), Text: text} }

// puts are changes: names and texts by turns.
func puts(l ...string) []api.Change {
	var changes []api.Change
	for i := 0; i < len(l); i += 2 {
		changes = append(changes, put(l[i], l[i+1]))
	}
	return changes
}

// opened is a view of the sheets S, T and U in which one edit was done: names and texts by turns.
func opened(t *testing.T, l ...string) *View {
	t.Helper()
	x, why := New("S", "T", "U")
	if x == nil || why != api.OK {
		t.Fatalf("New: %d", why)
	}
	if len(l) > 0 {
		edited(t, x, l...)
	}
	return x
}

// settled is a view as opened's, of which nothing is stale any more.
func settled(t *testing.T, l ...string) *View {
	t.Helper()
	x := opened(t, l...)
	settle(t, x)
	return x
}

// settle ticks until nothing is stale.
func settle(t *testing.T, x *View) {
	t.Helper()
	for x.Count() > 0 {
		sum := 0
		for task := range x.Sheets() {
			k, why := x.Tick(task, 1<<40)
			if why != api.OK {
				t.Fatal(why)
			}
			sum += k
		}
		if sum == 0 {
			t.Fatalf("nothing to do, and %d are stale", x.Count())
		}
	}
}

// taken is an edit that must be accepted.
func taken(t *testing.T, x *View, changes ...api.Change) {
	t.Helper()
	ahead := x.Version()
	if r := x.Edit(changes...); r != (api.Refusal{}) {
		t.Fatalf("Edit(%.300q): %v", fmt.Sprint(changes), r)
	}
	if x.Version() != ahead+1 {
		t.Fatalf("version %d behind an edit, %d ahead", x.Version(), ahead)
	}
}

// edited is an edit that must be accepted: names and texts by turns.
func edited(t *testing.T, x *View, l ...string) {
	t.Helper()
	taken(t, x, puts(l...)...)
}

// ticked is a tick that must do so many steps.
func ticked(t *testing.T, x *View, task, budget, want int) {
	t.Helper()
	if got, why := x.Tick(task, budget); got != want || why != api.OK {
		t.Fatalf("Tick(%d, %d): %d, %d, want %d", task, budget, got, why, want)
	}
}

// traced is a trace that must be taken.
func traced(t *testing.T, x *View, task, budget int) []api.Event {
	t.Helper()
	l, why := x.Trace(task, budget)
	if why != api.OK {
		t.Fatalf("Trace(%d, %d): %d", task, budget, why)
	}
	return l
}

// seen is a viewport that must be taken.
func seen(t *testing.T, x *View, task int, views string) {
	t.Helper()
	if why := x.See(task, areas(views)...); why != api.OK {
		t.Fatalf("See(%d, %s): %d", task, views, why)
	}
	if got := x.Areas(task); !slices.Equal(got, areas(views)) {
		t.Fatalf("Areas(%d): %v, want %s", task, got, views)
	}
}

// nextIs holds which cell comes next; none, if the name is empty.
func nextIs(t *testing.T, x *View, task int, want string) {
	t.Helper()
	c, ok := x.Next(task)
	if got := names(c); ok != (want != "") || ok && got != want || !ok && c != (api.Cell{}) {
		t.Errorf("Next(%d): %s, %v, want %q", task, got, ok, want)
	}
}

// parkedIs holds which frame a task has, and its steps; none, if the name is empty.
func parkedIs(t *testing.T, x *View, task int, want string, steps int) {
	t.Helper()
	p, ok := x.Parked(task)
	f := x.Flight(task)
	if want == "" {
		if ok || p != (api.Parked{}) || !reflect.ValueOf(f).IsZero() {
			t.Errorf("Parked(%d): %v, %v; Flight: %v; want none", task, p, ok, f)
		}
		return
	}
	if !ok || p != (api.Parked{Cell: at(want), Steps: steps}) || !f.On || f.Cell != p.Cell || f.Frame.Steps != steps {
		t.Errorf("Parked(%d): %v, %v; Flight: %v; want %s %d", task, p, ok, f, want, steps)
	}
	nextIs(t, x, task, want)
}

// abortedIs holds what Aborted tells.
func abortedIs(t *testing.T, x *View, want string) {
	t.Helper()
	if got := names(x.Aborted()...); got != want {
		t.Errorf("Aborted: %q, want %q", got, want)
	}
}

// staleAre holds which cells are stale, and which of them ready.
func staleAre(t *testing.T, x *View, stale, ready string) {
	t.Helper()
	if s, r := names(all(x, x.StaleOf)...), names(all(x, x.ReadyOf)...); s != stale || r != ready {
		t.Errorf("stale %q, ready %q, want %q, %q", s, r, stale, ready)
	}
}

// all is what a call tells of each sheet, one behind the other.
func all(x *View, of func(int) []api.Cell) []api.Cell {
	var l []api.Cell
	for sheet := range x.Sheets() {
		l = append(l, of(sheet)...)
	}
	return l
}

// strange are cells that no book of three sheets has.
func strange() []api.Cell {
	const least, most = -1 << 63, 1<<63 - 1
	l := []api.Cell{{Sheet: 3}, {Sheet: -1, Row: -1, Col: -1}}
	for _, n := range []int{-1, api.MaxSheets, least, most} {
		l = append(l, api.Cell{Sheet: n})
	}
	for _, n := range []int{-1, api.MaxRows, least, most} {
		l = append(l, api.Cell{Row: n})
	}
	for _, n := range []int{-1, api.MaxCols, least, most} {
		l = append(l, api.Cell{Col: n})
	}
	return l
}

// oddTasks are numbers of no task, if there are three.
func oddTasks() []int { return []int{-1 << 63, -1, 3, api.MaxSheets, 1<<63 - 1} }

// teller is what tasks tell, and a view by promotion.
type teller interface {
	Sheets() []string
	Sheet(name string) int
	Version() int
	Kind(c api.Cell) int
	Text(c api.Cell) string
	Constant(c api.Cell) api.Value
	Code(c api.Cell) []api.Ins
	Uses(c api.Cell) []api.Area
	Cells(sheet int) []api.Cell
	Len() int
	Users(c api.Cell) []api.Cell
	Reach(cs ...api.Cell) []api.Cell
	Cyclic(c api.Cell) bool
	Level(c api.Cell) int
	Path(from, to api.Cell) []api.Cell
	Circle(c api.Cell) []api.Cell
	Last() api.Effect
	Stale(c api.Cell) bool
	Ready(c api.Cell) bool
	StaleOf(sheet int) []api.Cell
	ReadyOf(sheet int) []api.Cell
	Count() int
	Aborted() []api.Cell
	Areas(task int) []api.Area
	Parked(task int) (api.Parked, bool)
	Next(task int) (api.Cell, bool)
	Value(c api.Cell) api.Value
	Flight(task int) api.Flight
}

// tellsTasks is all that tasks, or a view as such, tell of the universe and of what is no cell, but what the last edit did.
func tellsTasks(m teller) string {
	var s strings.Builder
	fmt.Fprintf(&s, "%q %d %d %d %d %d\n", m.Sheets(), m.Version(), m.Len(), m.Sheet("T"), m.Sheet("nobody"), m.Count())
	for sheet := -1; sheet <= api.MaxSheets; sheet++ {
		next, is := m.Next(sheet)
		parked, on := m.Parked(sheet)
		fmt.Fprintln(&s, m.Cells(sheet), m.StaleOf(sheet), m.ReadyOf(sheet), next, is, parked, on, m.Flight(sheet), m.Areas(sheet))
	}
	cells := append(strange(), universe()...)
	for _, c := range cells {
		fmt.Fprintf(&s, "%v %d %q %v %v %v %v %v %v\n", c, m.Kind(c), m.Text(c), m.Constant(c), m.Code(c), m.Uses(c), m.Stale(c), m.Ready(c), m.Value(c))
		fmt.Fprintf(&s, "%v %v %v %d %v %v %v\n", m.Users(c), m.Reach(c), m.Cyclic(c), m.Level(c), m.Circle(c), m.Path(at("A1"), c), m.Path(c, c))
	}
	fmt.Fprintln(&s, m.Reach(), m.Reach(cells...))
	return s.String()
}

// tellsLast is what the last edit did.
func tellsLast(m teller) string { return fmt.Sprint(m.Last(), m.Aborted()) }

// tells is all that a view tells beside what its tasks do.
func tells(x *View) string {
	var s strings.Builder
	fmt.Fprintln(&s, x.Idle(), x.State())
	for _, c := range append(strange(), universe()...) {
		seen, why := x.Read(c)
		fmt.Fprintln(&s, c, seen, why)
	}
	for task := -1; task <= api.MaxSheets; task++ {
		l, why := x.Window(task)
		fmt.Fprintln(&s, task, l, why)
	}
	return s.String()
}

// tellsAll is all that a view tells.
func tellsAll(x *View) string { return tellsTasks(x) + tellsLast(x) + tells(x) }

// fresh is what a fresh cell with contents tells.
func fresh(v api.Value, version int) api.Seen {
	return api.Seen{V: v, Fresh: true, Ever: true, Version: version}
}

// vacant is what an empty cell tells.
func vacant(version int) api.Seen { return api.Seen{Fresh: true, Version: version} }

// old is what a stale cell tells that had contents when it was fresh last.
func old(v api.Value, version int) api.Seen { return api.Seen{V: v, Ever: true, Version: version} }

// never is what a stale cell tells that had none.
func never() api.Seen { return api.Seen{} }

// reads holds what a cell tells.
func reads(t *testing.T, x *View, name string, want api.Seen) {
	t.Helper()
	if got, why := x.Read(at(name)); got != want || why != api.OK {
		t.Errorf("Read(%s): %v, %d, want %v", name, got, why, want)
	}
}

// read is what a cell of the book tells.
func read(t *testing.T, x *View, c api.Cell) api.Seen {
	t.Helper()
	got, why := x.Read(c)
	if why != api.OK {
		t.Fatalf("Read(%s): %d", names(c), why)
	}
	return got
}

// shows holds what a task's viewport shows: the cells, each with what Read tells of it.
func shows(t *testing.T, x *View, task int, want string) {
	t.Helper()
	got, why := x.Window(task)
	var l []api.Cell
	for _, s := range got {
		l = append(l, s.Cell)
		if s.Seen != read(t, x, s.Cell) {
			t.Errorf("Window(%d): %s tells %v, and as read %v", task, names(s.Cell), s.Seen, read(t, x, s.Cell))
		}
	}
	if why != api.OK || names(l...) != want {
		t.Errorf("Window(%d): %s, %d, want %s", task, names(l...), why, want)
	}
}

// idleIs holds whether nothing is stale.
func idleIs(t *testing.T, x *View, want bool) {
	t.Helper()
	if x.Idle() != want {
		t.Errorf("Idle: %v, %d are stale", x.Idle(), x.Count())
	}
}

// doneIs makes a ready cell fresh past the tasks.
func doneIs(t *testing.T, x *View, name string) {
	t.Helper()
	if why := x.Done(at(name)); why != api.OK {
		t.Fatalf("Done(%s): %d", name, why)
	}
}

// restored is the view of a state that must be right.
func restored(t *testing.T, s api.State) *View {
	t.Helper()
	x, why := Restore(s)
	if x == nil || why != api.OK {
		t.Fatalf("Restore(%.500q): %d", fmt.Sprint(s), why)
	}
	return x
}

// roomy is a list with spare room in which something stands, and the whole of it.
func roomy[E any](l []E, spare ...E) (short, whole []E) {
	whole = append(slices.Clone(l), spare...)
	return whole[:len(l)], whole
}

// fill writes over a list, its spare room too.
func fill[E any](l []E, with E) {
	l = l[:cap(l)]
	for i := range l {
		l[i] = with
	}
}
