package plan

import (
	"fmt"
	"slices"
	"strings"
	"testing"

	"whittle/api"
	"whittle/place"
	"whittle/view"
)

// at is a cell by its name, with T! or U! ahead of one of the sheet 1 or 2.
func at(name string) api.Cell {
	sheet := 0
	for i, head := range []string{"T!", "U!"} {
		if rest, ok := strings.CutPrefix(name, head); ok {
			sheet, name = i+1, rest
		}
	}
	row, col, ok := place.Read(name)
	if !ok {
		panic("no cell: " + name)
	}
	return api.Cell{Sheet: sheet, Row: row, Col: col}
}

// area is one by its name; a cell's name is an area, too.
func area(name string) api.Area {
	first, last, ok := strings.Cut(name, ":")
	a := at(first)
	b := a
	if ok {
		b = at(last)
	}
	return api.Area{Sheet: a.Sheet, Top: a.Row, Left: a.Col, Bottom: b.Row, Right: b.Col}
}

// list is cells by their names, with blanks between.
func list(names string) []api.Cell {
	var l []api.Cell
	for _, name := range strings.Fields(names) {
		l = append(l, at(name))
	}
	return l
}

// names is the other way round.
func names(l ...api.Cell) string {
	var s []string
	for _, c := range l {
		s = append(s, []string{"", "T!", "U!"}[c.Sheet]+place.Name(c))
	}
	return strings.Join(s, " ")
}

func n(x int) api.Value { return api.Value{Kind: api.Number, Num: api.Num{N: x, D: 1}} }

func txt(s string) api.Value { return api.Value{Kind: api.Text, Text: s} }

// puts are changes: names and texts by turns.
func puts(l ...string) []api.Change {
	var changes []api.Change
	for i := 0; i < len(l); i += 2 {
		changes = append(changes, api.Change{Cell: at(l[i]), Text: l[i+1]})
	}
	return changes
}

// opened is a view of the sheets S, T and U in which one edit was done: names and texts by turns.
func opened(t *testing.T, l ...string) *view.View {
	t.Helper()
	v, why := view.New("S", "T", "U")
	if v == nil || why != api.OK {
		t.Fatalf("New: %d", why)
	}
	if len(l) > 0 {
		edited(t, v, l...)
	}
	return v
}

// edited is an edit that must be accepted: names and texts by turns.
func edited(t *testing.T, v *view.View, l ...string) {
	t.Helper()
	if r := v.Edit(puts(l...)...); r != (api.Refusal{}) {
		t.Fatalf("Edit(%.300q): %v", l, r)
	}
}

// ticked is a tick that must do so many steps.
func ticked(t *testing.T, v *view.View, task, budget, want int) {
	t.Helper()
	if got, why := v.Tick(task, budget); got != want || why != api.OK {
		t.Fatalf("Tick(%d, %d): %d, %d, want %d", task, budget, got, why, want)
	}
}

// done is a Done by others, which must be taken.
func done(t *testing.T, v *view.View, names string) {
	t.Helper()
	for _, c := range list(names) {
		if why := v.Done(c); why != api.OK {
			t.Fatalf("Done(%v): %d", c, why)
		}
	}
}

// seen lays a viewport, which must be taken.
func seen(t *testing.T, v *view.View, task int, names ...string) {
	t.Helper()
	var areas []api.Area
	for _, name := range names {
		areas = append(areas, area(name))
	}
	if why := v.See(task, areas...); why != api.OK {
		t.Fatalf("See(%d, %v): %d", task, names, why)
	}
}

// again is the view of a state, which must be taken.
func again(t *testing.T, s api.State) *view.View {
	t.Helper()
	v, why := view.Restore(s)
	if v == nil || why != api.OK {
		t.Fatalf("Restore: %d", why)
	}
	return v
}

// settle ticks until nothing is stale.
func settle(t *testing.T, v *view.View) {
	t.Helper()
	for !v.Idle() {
		sum := 0
		for task := range v.Sheets() {
			steps, why := v.Tick(task, 1<<40)
			if why != api.OK {
				t.Fatal(why)
			}
			sum += steps
		}
		if sum == 0 {
			t.Fatalf("nothing to do, and %d are stale", v.Count())
		}
	}
}

// ticks are some: tasks and budgets by turns.
func ticks(l ...int) []api.Tick {
	var ticks []api.Tick
	for i := 0; i < len(l); i += 2 {
		ticks = append(ticks, api.Tick{Task: l[i], Budget: l[i+1]})
	}
	return ticks
}

// came is an outcome: steps, and which cells were written.
func came(steps int, done string) api.Outcome { return api.Outcome{Steps: steps, Done: list(done)} }

// refused is the outcome of a tick that is refused.
func refused(why api.Errno) api.Outcome { return api.Outcome{Code: why} }

func sameOutcome(a, b api.Outcome) bool {
	return a.Steps == b.Steps && a.Code == b.Code && slices.Equal(a.Done, b.Done)
}

// shown are outcomes, as short as they can be told.
func shown(l []api.Outcome) string {
	var s []string
	for _, x := range l {
		s = append(s, fmt.Sprintf("%d %d %s", x.Steps, x.Code, names(x.Done...)))
	}
	return strings.Join(s, "; ")
}

// foretold holds a forecast, and that it turns nothing of the view.
func foretold(t *testing.T, v *view.View, l []api.Tick, want ...api.Outcome) {
	t.Helper()
	was := tells(v)
	if got := Forecast(v, l...); !slices.EqualFunc(got, want, sameOutcome) {
		t.Errorf("Forecast(%v): %s, want %s", l, shown(got), shown(want))
	}
	if now := tells(v); now != was {
		t.Fatalf("Forecast(%v) turned\n%s, which was\n%s", l, now, was)
	}
}

// comes holds a forecast, and then that the view's own ticks come to just that.
func comes(t *testing.T, v *view.View, l []api.Tick, want ...api.Outcome) {
	t.Helper()
	foretold(t, v, l, want...)
	if got := did(v, l); !slices.EqualFunc(got, want, sameOutcome) {
		t.Errorf("the ticks %v come to %s, want %s", l, shown(got), shown(want))
	}
}

// did does ticks, and tells what they come to.
func did(v *view.View, l []api.Tick) []api.Outcome {
	var told []api.Outcome
	for _, x := range l {
		told = append(told, didOne(v, x))
	}
	return told
}

// didOne does a tick step by step, so that each event is told.
func didOne(v *view.View, x api.Tick) api.Outcome {
	steps, why := v.Tick(x.Task, min(x.Budget, 0))
	if steps != 0 || why != api.OK {
		return api.Outcome{Steps: steps, Code: why}
	}
	var told api.Outcome
	for told.Steps < x.Budget {
		events, _ := v.Trace(x.Task, min(x.Budget-told.Steps, api.MaxTrace))
		if len(events) == 0 {
			break
		}
		told.Steps += len(events)
		for _, event := range events {
			if event.Wrote {
				told.Done = append(told.Done, event.Cell)
			}
		}
	}
	return told
}

// costs holds what is still to be done, and that nothing is turned by asking.
func costs(t *testing.T, v *view.View, work, longest int) {
	t.Helper()
	was := tells(v)
	if w, l := Work(v), Longest(v); w != work || l != longest {
		t.Errorf("Work %d, Longest %d, want %d, %d", w, l, work, longest)
	}
	if now := tells(v); now != was {
		t.Fatalf("asking turned\n%s, which was\n%s", now, was)
	}
}

// tells is all that a view tells.
func tells(v *view.View) string {
	var s strings.Builder
	fmt.Fprintln(&s, v.State(), v.Len(), v.Count(), v.Last(), v.Aborted())
	for task := range v.Sheets() {
		parked, on := v.Parked(task)
		next, some := v.Next(task)
		fmt.Fprintln(&s, v.StaleOf(task), v.ReadyOf(task), parked, on, next, some)
	}
	return s.String()
}

// roomy is a list with spare room in which something stands, and the whole of it.
func roomy[E any](l []E, spare ...E) (short, whole []E) {
	whole = append(slices.Clone(l), spare...)
	return whole[:len(l)], whole
}

// fill writes over a list, its spare room too.
func fill[E any](l []E, with E) {
	l = l[:cap(l)]
	for i := range l {
		l[i] = with
	}
}
