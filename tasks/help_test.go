package tasks

import (
	"fmt"
	"reflect"
	"slices"
	"strings"
	"testing"

	"whittle/api"
	"whittle/place"
)

// at is a cell by its name, with T! or U! ahead of one of the sheet 1 or 2.
func at(name string) api.Cell {
	sheet := 0
	for i, head := range []string{"T!", "U!"} {
		if rest, ok := strings.CutPrefix(name, head); ok {
			sheet, name = i+1, rest
		}
	}
	row, col, ok := place.Read(name)
	if !ok {
		panic("no cell: " + name)
	}
	return api.Cell{Sheet: sheet, Row: row, Col: col}
}

// area is one by its name, with T! or U! ahead of one of the sheet 1 or 2; a cell's name is an area, too.
func area(name string) api.Area {
	first, last, ok := strings.Cut(name, ":")
	a := at(first)
	b := a
	if ok {
		b = at(last)
	}
	return api.Area{Sheet: a.Sheet, Top: a.Row, Left: a.Col, Bottom: b.Row, Right: b.Col}
}

// areas are those of names with blanks between.
func areas(names string) []api.Area {
	var l []api.Area
	for _, name := range strings.Fields(names) {
		l = append(l, area(name))
	}
	return l
}

// list is cells by their names, with blanks between.
func list(names string) []api.Cell {
	var l []api.Cell
	for _, name := range strings.Fields(names) {
		l = append(l, at(name))
	}
	return l
}

// names is the other way round.
func names(l ...api.Cell) string {
	var s []string
	for _, c := range l {
		name := place.Name(c)
		if c.Sheet < 0 || c.Sheet > 2 || name == "" {
			name = fmt.Sprint(c)
		} else {
			name = []string{"", "T!", "U!"}[c.Sheet] + name
		}
		s = append(s, name)
	}
	return strings.Join(s, " ")
}

func n(x int) api.Value { return api.Value{Kind: api.Number, Num: api.Num{N: x, D: 1}} }

func txt(s string) api.Value { return api.Value{Kind: api.Text, Text: s} }

func truth(b bool) api.Value { return api.Value{Kind: api.Truth, True: b} }

func bad(code int) api.Value { return api.Value{Kind: api.Fault, Fault: code} }

func blank() api.Value { return api.Value{} }

func circle() api.Value { return bad(api.FaultCircle) }

// put is a change of a cell, by its name.
func put(name, text string) api.Change { return api.Change{Cell: at(name), Text: text} }

// puts are changes: names and texts by turns.
func puts(l ...string) []api.Change {
	var changes []api.Change
	for i := 0; i < len(l); i += 2 {
		changes = append(changes, put(l[i], l[i+1]))
	}
	return changes
}

// opened is tasks of the sheets S, T and U in which one edit was done: names and texts by turns.
func opened(t *testing.T, l ...string) *Tasks {
	t.Helper()
	x, why := New("S", "T", "U")
	if x == nil || why != api.OK {
		t.Fatalf("New: %d", why)
	}
	if len(l) > 0 {
		edited(t, x, l...)
	}
	return x
}

// settled is tasks as opened's, of which nothing is stale any more.
func settled(t *testing.T, l ...string) *Tasks {
	t.Helper()
	x := opened(t, l...)
	settle(t, x)
	return x
}

// settle ticks until nothing is stale.
func settle(t *testing.T, x *Tasks) {
	t.Helper()
	for x.Count() > 0 {
		sum := 0
		for task := range x.Sheets() {
			k, why := x.Tick(task, 1<<40)
			if why != api.OK {
				t.Fatal(why)
			}
			sum += k
		}
		if sum == 0 {
			t.Fatalf("nothing to do, and %d are stale", x.Count())
		}
	}
}

// taken is an edit that must be accepted.
func taken(t *testing.T, x *Tasks, changes ...api.Change) {
	t.Helper()
	ahead := x.Version()
	if r := x.Edit(changes...); r != (api.Refusal{}) {
		t.Fatalf("Edit(%.300q): %v", fmt.Sprint(changes), r)
	}
	if x.Version() != ahead+1 {
		t.Fatalf("version %d behind an edit, %d ahead", x.Version(), ahead)
	}
}

// edited is an edit that must be accepted: names and texts by turns.
func edited(t *testing.T, x *Tasks, l ...string) {
	t.Helper()
	taken(t, x, puts(l...)...)
}

// ticked is a tick that must do so many steps.
func ticked(t *testing.T, x *Tasks, task, budget, want int) {
	t.Helper()
	if got, why := x.Tick(task, budget); got != want || why != api.OK {
		t.Fatalf("Tick(%d, %d): %d, %d, want %d", task, budget, got, why, want)
	}
}

// tickRefused is a tick, and a trace, that must be refused so, with nothing turned.
func tickRefused(t *testing.T, x *Tasks, task, budget int, want api.Errno) {
	t.Helper()
	ahead := tells(x)
	if got, why := x.Tick(task, budget); got != 0 || why != want {
		t.Errorf("Tick(%d, %d): %d, %d, want %d", task, budget, got, why, want)
	}
	if tells(x) != ahead {
		t.Errorf("a refused tick of %d, %d has turned what is told", task, budget)
	}
	traceRefused(t, x, task, budget, want)
}

// traceRefused is a trace that must be refused so, with nothing turned.
func traceRefused(t *testing.T, x *Tasks, task, budget int, want api.Errno) {
	t.Helper()
	ahead := tells(x)
	if l, why := x.Trace(task, budget); len(l) != 0 || why != want {
		t.Errorf("Trace(%d, %d): %v, %d, want %d", task, budget, l, why, want)
	}
	if tells(x) != ahead {
		t.Errorf("a refused trace of %d, %d has turned what is told", task, budget)
	}
}

// traced is a trace that must be taken.
func traced(t *testing.T, x *Tasks, task, budget int) []api.Event {
	t.Helper()
	l, why := x.Trace(task, budget)
	if why != api.OK {
		t.Fatalf("Trace(%d, %d): %d", task, budget, why)
	}
	return l
}

// seen is a viewport that must be taken.
func seen(t *testing.T, x *Tasks, task int, views string) {
	t.Helper()
	if why := x.See(task, areas(views)...); why != api.OK {
		t.Fatalf("See(%d, %s): %d", task, views, why)
	}
	if got := x.Areas(task); !slices.Equal(got, areas(views)) {
		t.Fatalf("Areas(%d): %v, want %s", task, got, views)
	}
}

// nextIs holds which cell comes next; none, if the name is empty.
func nextIs(t *testing.T, x *Tasks, task int, want string) {
	t.Helper()
	c, ok := x.Next(task)
	if got := names(c); ok != (want != "") || ok && got != want || !ok && c != (api.Cell{}) {
		t.Errorf("Next(%d): %s, %v, want %q", task, got, ok, want)
	}
}

// parkedIs holds which frame a task has, and its steps; none, if the name is empty.
func parkedIs(t *testing.T, x *Tasks, task int, want string, steps int) {
	t.Helper()
	p, ok := x.Parked(task)
	f := x.Flight(task)
	if want == "" {
		if ok || p != (api.Parked{}) || !reflect.ValueOf(f).IsZero() {
			t.Errorf("Parked(%d): %v, %v; Flight: %v; want none", task, p, ok, f)
		}
		return
	}
	if !ok || p != (api.Parked{Cell: at(want), Steps: steps}) || !f.On || f.Cell != p.Cell || f.Frame.Steps != steps {
		t.Errorf("Parked(%d): %v, %v; Flight: %v; want %s %d", task, p, ok, f, want, steps)
	}
	nextIs(t, x, task, want)
}

// abortedIs holds what Aborted tells.
func abortedIs(t *testing.T, x *Tasks, want string) {
	t.Helper()
	if got := names(x.Aborted()...); got != want {
		t.Errorf("Aborted: %q, want %q", got, want)
	}
}

// valueIs holds what a cell tells.
func valueIs(t *testing.T, x *Tasks, name string, want api.Value) {
	t.Helper()
	if got := x.Value(at(name)); got != want {
		t.Errorf("Value(%s): %v, want %v", name, got, want)
	}
}

// staleAre holds which cells are stale, and which of them ready.
func staleAre(t *testing.T, x *Tasks, stale, ready string) {
	t.Helper()
	if s, r := names(all(x, x.StaleOf)...), names(all(x, x.ReadyOf)...); s != stale || r != ready {
		t.Errorf("stale %q, ready %q, want %q, %q", s, r, stale, ready)
	}
}

// all is what a call tells of each sheet, one behind the other.
func all(x *Tasks, of func(int) []api.Cell) []api.Cell {
	var l []api.Cell
	for sheet := range x.Sheets() {
		l = append(l, of(sheet)...)
	}
	return l
}

// strange are cells that no book of three sheets has.
func strange() []api.Cell {
	const least, most = -1 << 63, 1<<63 - 1
	l := []api.Cell{{Sheet: 3}, {Sheet: -1, Row: -1, Col: -1}}
	for _, n := range []int{-1, api.MaxSheets, least, most} {
		l = append(l, api.Cell{Sheet: n})
	}
	for _, n := range []int{-1, api.MaxRows, least, most} {
		l = append(l, api.Cell{Row: n})
	}
	for _, n := range []int{-1, api.MaxCols, least, most} {
		l = append(l, api.Cell{Col: n})
	}
	return l
}

// oddTasks are numbers of no task, if there are three.
func oddTasks() []int { return []int{-1 << 63, -1, 3, api.MaxSheets, 1<<63 - 1} }

// teller is what marks tell, and tasks by promotion.
type teller interface {
	Sheets() []string
	Sheet(name string) int
	Version() int
	Kind(c api.Cell) int
	Text(c api.Cell) string
	Constant(c api.Cell) api.Value
	Code(c api.Cell) []api.Ins
	Uses(c api.Cell) []api.Area
	Cells(sheet int) []api.Cell
	Len() int
	Users(c api.Cell) []api.Cell
	Reach(cs ...api.Cell) []api.Cell
	Cyclic(c api.Cell) bool
	Level(c api.Cell) int
	Path(from, to api.Cell) []api.Cell
	Circle(c api.Cell) []api.Cell
	Last() api.Effect
	Stale(c api.Cell) bool
	Ready(c api.Cell) bool
	StaleOf(sheet int) []api.Cell
	ReadyOf(sheet int) []api.Cell
	Count() int
}

// tellsMarks is all that marks, or tasks as such, tell of the universe and of what is no cell.
func tellsMarks(m teller) string {
	var s strings.Builder
	fmt.Fprintf(&s, "%q %d %d %d %d %d %v\n", m.Sheets(), m.Version(), m.Len(), m.Sheet("T"), m.Sheet("nobody"), m.Count(), m.Last())
	for sheet := -1; sheet <= api.MaxSheets; sheet++ {
		fmt.Fprintln(&s, m.Cells(sheet), m.StaleOf(sheet), m.ReadyOf(sheet))
	}
	cells := append(strange(), universe()...)
	for _, c := range cells {
		fmt.Fprintf(&s, "%v %d %q %v %v %v %v %v\n", c, m.Kind(c), m.Text(c), m.Constant(c), m.Code(c), m.Uses(c), m.Stale(c), m.Ready(c))
		fmt.Fprintf(&s, "%v %v %v %d %v %v %v\n", m.Users(c), m.Reach(c), m.Cyclic(c), m.Level(c), m.Circle(c), m.Path(at("A1"), c), m.Path(c, c))
	}
	fmt.Fprintln(&s, m.Reach(), m.Reach(cells...))
	return s.String()
}

// tells is all that tasks tell beside what their marks do.
func tells(x *Tasks) string { return fmt.Sprint(x.Aborted()) + tellsFrames(x) }

// tellsFrames is that without Aborted.
func tellsFrames(x *Tasks) string {
	var s strings.Builder
	for task := -1; task <= api.MaxSheets; task++ {
		next, is := x.Next(task)
		parked, on := x.Parked(task)
		fmt.Fprintln(&s, task, next, is, parked, on, x.Flight(task), x.Areas(task))
	}
	for _, c := range append(strange(), universe()...) {
		fmt.Fprintln(&s, c, x.Value(c))
	}
	return s.String()
}

// tellsAll is all that tasks tell.
func tellsAll(x *Tasks) string { return tellsMarks(x) + tells(x) }

// stateOf is the state of tasks; a stale cell that tells Blank is said not to be Ever.
func stateOf(x *Tasks) api.State {
	s := api.State{Sheets: x.Sheets(), Version: x.Version()}
	for _, c := range all(x, x.Cells) {
		v := x.Value(c)
		s.Cells = append(s.Cells, api.Held{Cell: c, Text: x.Text(c), Stale: x.Stale(c), V: v, Ever: !x.Stale(c) || v != blank(), Version: x.Version()})
	}
	for task := range s.Sheets {
		s.Views = append(s.Views, x.Areas(task))
		s.Frames = append(s.Frames, x.Flight(task))
	}
	return s
}

// restored is the tasks of a state that must be right.
func restored(t *testing.T, s api.State) *Tasks {
	t.Helper()
	x, why := Restore(s)
	if x == nil || why != api.OK {
		t.Fatalf("Restore(%.500q): %d", fmt.Sprint(s), why)
	}
	return x
}

// roomy is a list with spare room in which something stands, and the whole of it.
func roomy[E any](l []E, spare ...E) (short, whole []E) {
	whole = append(slices.Clone(l), spare...)
	return whole[:len(l)], whole
}

// fill writes over a list, its spare room too.
func fill[E any](l []E, with E) {
	l = l[:cap(l)]
	for i := range l {
		l[i] = with
	}
}
