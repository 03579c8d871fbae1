package witness

import (
	"fmt"
	"slices"
	"strings"
	"testing"

	"whittle/api"
	"whittle/code"
	"whittle/place"
	"whittle/tasks"
	"whittle/tree"
	"whittle/value"
)

// sheets are those of all books here.
func sheets() []string { return []string{"S", "T", "U"} }

// at is a cell by its name, with T! or U! ahead of one of the sheet 1 or 2.
func at(name string) api.Cell {
	sheet := 0
	for i, head := range []string{"T!", "U!"} {
		if rest, ok := strings.CutPrefix(name, head); ok {
			sheet, name = i+1, rest
		}
	}
	row, col, ok := place.Read(name)
	if !ok {
		panic("no cell: " + name)
	}
	return api.Cell{Sheet: sheet, Row: row, Col: col}
}

// list is cells by their names, with blanks between.
func list(names string) []api.Cell {
	var l []api.Cell
	for _, name := range strings.Fields(names) {
		l = append(l, at(name))
	}
	return l
}

// names is the other way round.
func names(l ...api.Cell) string {
	var s []string
	for _, c := range l {
		name := place.Name(c)
		if c.Sheet < 0 || c.Sheet > 2 || name == "" {
			name = fmt.Sprint(c)
		} else {
			name = []string{"", "T!", "U!"}[c.Sheet] + name
		}
		s = append(s, name)
	}
	return strings.Join(s, " ")
}

// put is a change of a cell, by its name.
func put(name, text string) api.Change { return api.Change{Cell: at(name), Text: text} }

// opened is tasks of the sheets S, T and U in which one edit was done: names and texts by turns.
func opened(t *testing.T, l ...string) *tasks.Tasks {
	t.Helper()
	x, why := tasks.New(sheets()...)
	if x == nil || why != api.OK {
		t.Fatalf("New: %d", why)
	}
	if len(l) > 0 {
		edited(t, x, l...)
	}
	return x
}

// edited is an edit that must be accepted: names and texts by turns.
func edited(t *testing.T, x *tasks.Tasks, l ...string) {
	t.Helper()
	var changes []api.Change
	for i := 0; i < len(l); i += 2 {
		changes = append(changes, put(l[i], l[i+1]))
	}
	if r := x.Edit(changes...); r != (api.Refusal{}) {
		t.Fatalf("Edit(%.300q): %v", l, r)
	}
}

// ticked is a tick that must do so many steps.
func ticked(t *testing.T, x *tasks.Tasks, task, budget, want int) {
	t.Helper()
	if got, why := x.Tick(task, budget); got != want || why != api.OK {
		t.Fatalf("Tick(%d, %d): %d, %d, want %d", task, budget, got, why, want)
	}
}

// settle ticks until nothing is stale.
func settle(t *testing.T, x *tasks.Tasks) {
	t.Helper()
	for x.Count() > 0 {
		for task := range x.Sheets() {
			if _, why := x.Tick(task, 1<<40); why != api.OK {
				t.Fatal(why)
			}
		}
	}
}

// traced is a trace that must be taken.
func traced(t *testing.T, x *tasks.Tasks, task, budget int) []api.Event {
	t.Helper()
	l, why := x.Trace(task, budget)
	if why != api.OK {
		t.Fatalf("Trace(%d, %d): %d", task, budget, why)
	}
	return l
}

// chainIs holds a chain, by names.
func chainIs(t *testing.T, x *tasks.Tasks, of, want string) {
	t.Helper()
	if l, why := Chain(x, at(of)); names(l...) != want || why != api.OK {
		t.Errorf("Chain(%s): %s, %d, want %s", of, names(l...), why, want)
	}
}

// noChain holds that there is none, and why.
func noChain(t *testing.T, x *tasks.Tasks, c api.Cell, want api.Errno) {
	t.Helper()
	if l, why := Chain(x, c); len(l) != 0 || why != want {
		t.Errorf("Chain(%v): %v, %d, want %d", c, l, why, want)
	}
}

// replayed holds what events come to.
func replayed(t *testing.T, l []api.Ins, want api.Value, events ...api.Event) {
	t.Helper()
	if v, ok := Replay(l, events...); v != want || !ok {
		t.Errorf("Replay(%.300s, %s): %v, %v, want %v", fmt.Sprint(l), shown(events), v, ok, want)
	}
}

// noReplay holds that events are no run's.
func noReplay(t *testing.T, what string, l []api.Ins, events ...api.Event) {
	t.Helper()
	if v, ok := Replay(l, events...); ok || v != (api.Value{}) {
		t.Errorf("%s: Replay(%.300s, %s): %v, %v", what, fmt.Sprint(l), shown(events), v, ok)
	}
}

// flat is the code of a formula in the cell IV9 of S.
func flat(t *testing.T, s string) []api.Ins {
	t.Helper()
	row, why, at := tree.Parse(s)
	if why != api.OK {
		t.Fatalf("Parse(%q): %d at %d", s, why, at)
	}
	l, why := code.Flatten(row, api.Cell{Row: 8, Col: 255}, sheets()...)
	if why != api.OK {
		t.Fatalf("Flatten(%q): %d", s, why)
	}
	return l
}

// events are those of the cell IV9, by a text: what was read, as a cell's name and a value as it is typed with = between; . for a step that reads none; = and a value for the last one, what it wrote.
func events(text string) []api.Event {
	var l []api.Event
	for _, word := range strings.Fields(text) {
		event := api.Event{Cell: at("IV9")}
		name, v, _ := strings.Cut(word, "=")
		switch {
		case word == ".":
		case name == "":
			event.Wrote, event.V = true, value.Read(v)
		default:
			event.Reads, event.Read, event.V = true, at(name), value.Read(v)
		}
		l = append(l, event)
	}
	return l
}

// shown is the other way round, but for what events can't tell.
func shown(l []api.Event) string {
	var s []string
	for _, e := range l {
		word := fmt.Sprint(e)
		switch {
		case e == api.Event{Cell: e.Cell}:
			word = "."
		case e == api.Event{Cell: e.Cell, Reads: true, Read: e.Read, V: e.V}:
			word = names(e.Read) + "=" + value.Show(e.V)
		case e == api.Event{Cell: e.Cell, Wrote: true, V: e.V}:
			word = "=" + value.Show(e.V)
		}
		s = append(s, word)
	}
	return strings.Join(s, " ")
}

// bent is events of which one is bent.
func bent(l []api.Event, i int, bend func(*api.Event)) []api.Event {
	l = slices.Clone(l)
	bend(&l[i])
	return l
}

// left is events without one of them; twice is events with one of them twice.
func left(l []api.Event, i int) []api.Event { return slices.Delete(slices.Clone(l), i, i+1) }

func twice(l []api.Event, i int) []api.Event { return slices.Insert(slices.Clone(l), i, l[i]) }

func n(x int) api.Value { return api.Value{Kind: api.Number, Num: api.Num{N: x, D: 1}} }

func txt(s string) api.Value { return api.Value{Kind: api.Text, Text: s} }

func truth(b bool) api.Value { return api.Value{Kind: api.Truth, True: b} }

func bad(code int) api.Value { return api.Value{Kind: api.Fault, Fault: code} }

func blank() api.Value { return api.Value{} }

// wrongs are values that are not right.
func wrongs() []api.Value {
	return []api.Value{
		{Kind: -1}, {Kind: 5}, {Num: api.Num{N: 0, D: 1}}, {Text: "x"}, {True: true}, {Fault: 1},
		{Kind: api.Number}, {Kind: api.Number, Num: api.Num{N: 2, D: 2}}, {Kind: api.Number, Num: api.Num{N: api.MaxNum + 1, D: 1}}, {Kind: api.Number, Num: api.Num{N: 1, D: 1}, Text: "1"},
		{Kind: api.Text, Text: "\n"}, {Kind: api.Text, Text: "\x7f"}, {Kind: api.Text, Text: strings.Repeat("x", api.MaxText+1)}, {Kind: api.Text, True: true},
		{Kind: api.Truth, Fault: 1}, {Kind: api.Fault}, {Kind: api.Fault, Fault: 9}, {Kind: api.Fault, Fault: -1}, {Kind: api.Fault, Fault: 1, Text: "x"},
	}
}

// strange are cells that no book of three sheets has.
func strange() []api.Cell {
	const least, most = -1 << 63, 1<<63 - 1
	l := []api.Cell{{Sheet: 3}, {Sheet: -1, Row: -1, Col: -1}}
	for _, n := range []int{-1, api.MaxSheets, least, most} {
		l = append(l, api.Cell{Sheet: n})
	}
	for _, n := range []int{-1, api.MaxRows, least, most} {
		l = append(l, api.Cell{Row: n})
	}
	for _, n := range []int{-1, api.MaxCols, least, most} {
		l = append(l, api.Cell{Col: n})
	}
	return l
}

// tells is all that tasks tell of their sheets, but for graphs.
func tells(x *tasks.Tasks) string {
	var s strings.Builder
	fmt.Fprintln(&s, x.Sheets(), x.Version(), x.Len(), x.Count(), x.Last(), x.Aborted())
	for task := range x.Sheets() {
		parked, on := x.Parked(task)
		next, some := x.Next(task)
		fmt.Fprintln(&s, x.StaleOf(task), x.ReadyOf(task), parked, on, next, some, x.Flight(task), x.Areas(task))
		for _, c := range x.Cells(task) {
			fmt.Fprintln(&s, c, x.Text(c), x.Value(c), x.Code(c))
		}
	}
	return s.String()
}

// roomy is a list with spare room in which something stands, and the whole of it.
func roomy[E any](l []E, spare ...E) (short, whole []E) {
	whole = append(slices.Clone(l), spare...)
	return whole[:len(l)], whole
}

// fill writes over a list, its spare room too.
func fill[E any](l []E, with E) {
	l = l[:cap(l)]
	for i := range l {
		l[i] = with
	}
}
