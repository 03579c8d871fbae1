package undo

import (
	"fmt"
	"reflect"
	"slices"
	"strings"
	"testing"

	"whittle/api"
	"whittle/place"
)

// at is a cell by its name, with T! or U! ahead of one of the sheet 1 or 2.
func at(name string) api.Cell {
	sheet := 0
	for i, head := range []string{"T!", "U!"} {
		if rest, ok := strings.CutPrefix(name, head); ok {
			sheet, name = i+1, rest
		}
	}
	row, col, ok := place.Read(name)
	if !ok {
		panic("no cell: " + name)
	}
	return api.Cell{Sheet: sheet, Row: row, Col: col}
}

// area is one by its name, with T! or U! ahead of one of the sheet 1 or 2; a cell's name is an area, too.
func area(name string) api.Area {
	first, last, ok := strings.Cut(name, ":")
	a := at(first)
	b := a
	if ok {
		b = at(last)
	}
	return api.Area{Sheet: a.Sheet, Top: a.Row, Left: a.Col, Bottom: b.Row, Right: b.Col}
}

// areas are those of names with blanks between.
func areas(names string) []api.Area {
	var l []api.Area
	for _, name := range strings.Fields(names) {
		l = append(l, area(name))
	}
	return l
}

// list is cells by their names, with blanks between.
func list(names string) []api.Cell {
	var l []api.Cell
	for _, name := range strings.Fields(names) {
		l = append(l, at(name))
	}
	return l
}

// names is the other way round.
func names(l ...api.Cell) string {
	var s []string
	for _, c := range l {
		name := place.Name(c)
		if c.Sheet < 0 || c.Sheet > 2 || name == "" {
			name = fmt.Sprint(c)
		} else {
			name = []string{"", "T!", "U!"}[c.Sheet] + name
		}
		s = append(s, name)
	}
	return strings.Join(s, " ")
}

func n(x int) api.Value { return api.Value{Kind: api.Number, Num: api.Num{N: x, D: 1}} }

func bad(code int) api.Value { return api.Value{Kind: api.Fault, Fault: code} }

func circle() api.Value { return bad(api.FaultCircle) }

// put is a change of a cell, by its name.
func put(name, text string) api.Change { return api.Change{Cell: at(name), Text: text} }

// puts are changes: names and texts by turns.
func puts(l ...string) []api.Change {
	var changes []api.Change
	for i := 0; i < len(l); i += 2 {
		changes = append(changes, put(l[i], l[i+1]))
	}
	return changes
}

// opened is an undo of the sheets S, T and U in which one edit was done: names and texts by turns.
func opened(t *testing.T, l ...string) *Undo {
	t.Helper()
	x, why := New("S", "T", "U")
	if x == nil || why != api.OK {
		t.Fatalf("New: %d", why)
	}
	if len(l) > 0 {
		edited(t, x, l...)
	}
	return x
}

// settled is an undo as opened's, of which nothing is stale any more.
func settled(t *testing.T, l ...string) *Undo {
	t.Helper()
	x := opened(t, l...)
	settle(t, x)
	return x
}

// settle ticks until nothing is stale.
func settle(t *testing.T, x *Undo) {
	t.Helper()
	for x.Count() > 0 {
		sum := 0
		for task := range x.Sheets() {
			k, why := x.Tick(task, 1<<40)
			if why != api.OK {
				t.Fatal(why)
			}
			sum += k
		}
		if sum == 0 {
			t.Fatalf("nothing to do, and %d are stale", x.Count())
		}
	}
}

// taken is an edit that must be accepted.
func taken(t *testing.T, x *Undo, changes ...api.Change) {
	t.Helper()
	ahead := x.Version()
	if r := x.Edit(changes...); r != (api.Refusal{}) {
		t.Fatalf("Edit(%.300q): %v", fmt.Sprint(changes), r)
	}
	if x.Version() != ahead+1 {
		t.Fatalf("version %d behind an edit, %d ahead", x.Version(), ahead)
	}
}

// edited is an edit that must be accepted: names and texts by turns.
func edited(t *testing.T, x *Undo, l ...string) {
	t.Helper()
	taken(t, x, puts(l...)...)
}

// ticked is a tick that must do so many steps.
func ticked(t *testing.T, x *Undo, task, budget, want int) {
	t.Helper()
	if got, why := x.Tick(task, budget); got != want || why != api.OK {
		t.Fatalf("Tick(%d, %d): %d, %d, want %d", task, budget, got, why, want)
	}
}

// seen is a viewport that must be taken.
func seen(t *testing.T, x *Undo, task int, views string) {
	t.Helper()
	if why := x.See(task, areas(views)...); why != api.OK {
		t.Fatalf("See(%d, %s): %d", task, views, why)
	}
	if got := x.Areas(task); !slices.Equal(got, areas(views)) {
		t.Fatalf("Areas(%d): %v, want %s", task, got, views)
	}
}

// nextIs holds which cell comes next; none, if the name is empty.
func nextIs(t *testing.T, x *Undo, task int, want string) {
	t.Helper()
	c, ok := x.Next(task)
	if got := names(c); ok != (want != "") || ok && got != want || !ok && c != (api.Cell{}) {
		t.Errorf("Next(%d): %s, %v, want %q", task, got, ok, want)
	}
}

// parkedIs holds which frame a task has, and its steps; none, if the name is empty.
func parkedIs(t *testing.T, x *Undo, task int, want string, steps int) {
	t.Helper()
	p, ok := x.Parked(task)
	f := x.Flight(task)
	if want == "" {
		if ok || p != (api.Parked{}) || !reflect.ValueOf(f).IsZero() {
			t.Errorf("Parked(%d): %v, %v; Flight: %v; want none", task, p, ok, f)
		}
		return
	}
	if !ok || p != (api.Parked{Cell: at(want), Steps: steps}) || !f.On || f.Cell != p.Cell || f.Frame.Steps != steps {
		t.Errorf("Parked(%d): %v, %v; Flight: %v; want %s %d", task, p, ok, f, want, steps)
	}
	nextIs(t, x, task, want)
}

// abortedIs holds what Aborted tells.
func abortedIs(t *testing.T, x *Undo, want string) {
	t.Helper()
	if got := names(x.Aborted()...); got != want {
		t.Errorf("Aborted: %q, want %q", got, want)
	}
}

// strange are cells that no book of three sheets has.
func strange() []api.Cell {
	const least, most = -1 << 63, 1<<63 - 1
	l := []api.Cell{{Sheet: 3}, {Sheet: -1, Row: -1, Col: -1}}
	for _, n := range []int{-1, api.MaxSheets, least, most} {
		l = append(l, api.Cell{Sheet: n})
	}
	for _, n := range []int{-1, api.MaxRows, least, most} {
		l = append(l, api.Cell{Row: n})
	}
	for _, n := range []int{-1, api.MaxCols, least, most} {
		l = append(l, api.Cell{Col: n})
	}
	return l
}

// oddTasks are numbers of no task, if there are three.
func oddTasks() []int { return []int{-1 << 63, -1, 3, api.MaxSheets, 1<<63 - 1} }

// teller is what a watch tells, and an undo by promotion.
type teller interface {
	Sheets() []string
	Sheet(name string) int
	Version() int
	Kind(c api.Cell) int
	Text(c api.Cell) string
	Constant(c api.Cell) api.Value
	Code(c api.Cell) []api.Ins
	Uses(c api.Cell) []api.Area
	Cells(sheet int) []api.Cell
	Len() int
	Users(c api.Cell) []api.Cell
	Reach(cs ...api.Cell) []api.Cell
	Cyclic(c api.Cell) bool
	Level(c api.Cell) int
	Path(from, to api.Cell) []api.Cell
	Circle(c api.Cell) []api.Cell
	Last() api.Effect
	Stale(c api.Cell) bool
	Ready(c api.Cell) bool
	StaleOf(sheet int) []api.Cell
	ReadyOf(sheet int) []api.Cell
	Count() int
	Aborted() []api.Cell
	Areas(task int) []api.Area
	Parked(task int) (api.Parked, bool)
	Next(task int) (api.Cell, bool)
	Value(c api.Cell) api.Value
	Flight(task int) api.Flight
	Read(c api.Cell) (api.Seen, api.Errno)
	Window(task int) ([]api.Shown, api.Errno)
	Idle() bool
	State() api.State
	Moment() int
	Since(moment int) ([]api.Cell, api.Errno)
}

// universe are the cells of which the tests' scripts tell; all their formulas stand in one of them.
func universe() []api.Cell {
	return list("A1 B1 C1 IV1 A2 B2 C2 A3 B3 IV65536 T!A1 T!B1 T!A2 T!B2 T!IV65536 U!A1 U!B2")
}

// tellsWatch is all that a watch, or an undo as such, tells of the universe and of what is no cell.
func tellsWatch(v teller) string {
	var s strings.Builder
	fmt.Fprintln(&s, v.Sheets(), v.Version(), v.Len(), v.Sheet("T"), v.Sheet("nobody"), v.Count(), v.Idle(), v.Last(), v.Aborted(), v.State())
	for task := -1; task <= api.MaxSheets; task++ {
		next, is := v.Next(task)
		parked, on := v.Parked(task)
		window, why := v.Window(task)
		fmt.Fprintln(&s, v.Cells(task), v.StaleOf(task), v.ReadyOf(task), next, is, parked, on, v.Flight(task), v.Areas(task), window, why)
	}
	cells := append(strange(), universe()...)
	for _, c := range cells {
		told, why := v.Read(c)
		fmt.Fprintf(&s, "%v %d %q %v %v %v %v %v %v %v %d\n", c, v.Kind(c), v.Text(c), v.Constant(c), v.Code(c), v.Uses(c), v.Stale(c), v.Ready(c), v.Value(c), told, why)
		fmt.Fprintln(&s, v.Users(c), v.Reach(c), v.Cyclic(c), v.Level(c), v.Circle(c), v.Path(at("A1"), c), v.Path(c, c))
	}
	fmt.Fprintln(&s, v.Reach(), v.Reach(cells...), v.Moment())
	for m := -2; m <= v.Moment()+2; m++ {
		l, why := v.Since(m)
		fmt.Fprintln(&s, m, l, why)
	}
	return s.String()
}

// tellsAll is all that an undo tells.
func tellsAll(x *Undo) string {
	back, forth := x.Steps()
	return fmt.Sprintln(tellsWatch(x), back, forth)
}

// momentIs holds the moment, and that there is none below 0 and none behind it.
func momentIs(t *testing.T, x *Undo, want int) {
	t.Helper()
	if got := x.Moment(); got != want {
		t.Errorf("Moment: %d, want %d", got, want)
	}
	for _, m := range []int{-1 << 63, -1, want + 1, 1<<63 - 1} {
		if l, why := x.Since(m); len(l) != 0 || why != api.ErrMoment {
			t.Errorf("Since(%d) at the moment %d: %s, %d", m, want, names(l...), why)
		}
	}
	sinceIs(t, x, want, "")
}

// sinceIs holds what was touched behind a moment.
func sinceIs(t *testing.T, x *Undo, moment int, want string) {
	t.Helper()
	if l, why := x.Since(moment); names(l...) != want || why != api.OK {
		t.Errorf("Since(%d): %s, %d, want %s", moment, names(l...), why, want)
	}
}

// fresh is what a fresh cell with contents tells.
func fresh(v api.Value, version int) api.Seen {
	return api.Seen{V: v, Fresh: true, Ever: true, Version: version}
}

// vacant is what an empty cell tells.
func vacant(version int) api.Seen { return api.Seen{Fresh: true, Version: version} }

// old is what a stale cell tells that had contents when it was fresh last.
func old(v api.Value, version int) api.Seen { return api.Seen{V: v, Ever: true, Version: version} }

// never is what a stale cell tells that had none.
func never() api.Seen { return api.Seen{} }

// reads holds what a cell tells.
func reads(t *testing.T, x *Undo, name string, want api.Seen) {
	t.Helper()
	if got, why := x.Read(at(name)); got != want || why != api.OK {
		t.Errorf("Read(%s): %v, %d, want %v", name, got, why, want)
	}
}

// doneIs makes a ready cell fresh past the tasks.
func doneIs(t *testing.T, x *Undo, name string) {
	t.Helper()
	if why := x.Done(at(name)); why != api.OK {
		t.Fatalf("Done(%s): %d", name, why)
	}
}

// stepsAre holds how many edits can be taken back, and done again.
func stepsAre(t *testing.T, x *Undo, back, forth int) {
	t.Helper()
	if b, f := x.Steps(); b != back || f != forth {
		t.Fatalf("Steps: %d %d, want %d %d", b, f, back, forth)
	}
}

// goes is an Undo or a Redo that must be taken: an edit, that passes one step from the one side to the other.
func goes(t *testing.T, x *Undo, way string, do func() api.Errno, by int) {
	t.Helper()
	version, moment := x.Version(), x.Moment()
	back, forth := x.Steps()
	if why := do(); why != api.OK {
		t.Fatalf("%s: %d", way, why)
	}
	if x.Version() != version+1 || x.Moment() != moment+1 {
		t.Fatalf("behind %s the version %d, the moment %d, ahead %d, %d", way, x.Version(), x.Moment(), version, moment)
	}
	stepsAre(t, x, back-by, forth+by)
}

// undone is an Undo that must be taken.
func undone(t *testing.T, x *Undo) {
	t.Helper()
	goes(t, x, "Undo", x.Undo, 1)
}

// redone is a Redo that must be taken.
func redone(t *testing.T, x *Undo) {
	t.Helper()
	goes(t, x, "Redo", x.Redo, -1)
}

// stuck is an Undo or a Redo that must be refused, and turn nothing that is told.
func stuck(t *testing.T, x *Undo, do func() api.Errno) {
	t.Helper()
	ahead := tellsAll(x)
	if why := do(); why != api.ErrUndo {
		t.Fatalf("%d, want ErrUndo", why)
	}
	if tellsAll(x) != ahead {
		t.Fatal("what was refused has turned what is told")
	}
}

// holds holds what cells hold: names and texts by turns.
func holds(t *testing.T, x *Undo, l ...string) {
	t.Helper()
	for _, want := range puts(l...) {
		if got := x.Text(want.Cell); got != want.Text {
			t.Errorf("%s holds %q, want %q", names(want.Cell), got, want.Text)
		}
	}
}

// contents is all that stands in an undo's cells.
func contents(x teller) map[api.Cell]string {
	all := map[api.Cell]string{}
	for sheet := range x.Sheets() {
		for _, c := range x.Cells(sheet) {
			all[c] = x.Text(c)
		}
	}
	return all
}

// roomy is a list with spare room in which something stands, and the whole of it.
func roomy[E any](l []E, spare ...E) (short, whole []E) {
	whole = append(slices.Clone(l), spare...)
	return whole[:len(l)], whole
}

// fill writes over a list, its spare room too.
func fill[E any](l []E, with E) {
	l = l[:cap(l)]
	for i := range l {
		l[i] = with
	}
}
