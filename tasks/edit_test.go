package tasks

import (
	"slices"
	"testing"

	"whittle/api"
	"whittle/marks"
)

// busy is tasks with a frame under way on each sheet: of B1, T!B1 and U!B1, each behind two steps.
func busy(t *testing.T) *Tasks {
	t.Helper()
	x := settled(t, "A1", "1", "A2", "2", "A3", "=A2", "C1", "=T!C1", "T!A1", "=S!A1", "T!A2", "5", "T!C1", "6", "U!A1", "=T!A1", "U!C9", "x")
	edited(t, x, "B1", "=A1+A3+C1", "T!B1", "=SUM(T!A1:A9)", "U!B1", "=IF(U!A1,SUM(C1:D9),S!A2)", "IV1", "=B1", "T!IV1", "=S!B1+T!B1")
	for task, name := range []string{"B1", "T!B1", "U!B1"} {
		ticked(t, x, task, 2, 2)
		parkedIs(t, x, task, name, 2)
	}
	abortedIs(t, x, "")
	return x
}

func TestAborts(t *testing.T) { // Promise 16.3: an accepted edit aborts just the frames whose cell is one of its cells, or reaches one.
	for _, y := range []struct {
		what    string
		edit    []string
		aborted string
	}{
		{"elsewhere", []string{"Z9", "1"}, ""},
		{"elsewhere on each sheet", []string{"D1", "=A1", "T!D1", "=S!A1", "U!B9", "=SUM(T!A1:A9)"}, ""},
		{"of what uses a frame's cell", []string{"IV1", "=B1+1", "T!IV1", ""}, ""},
		{"of a new user", []string{"C9", "=B1+T!B1+U!B1"}, ""},
		{"of a frame's cell", []string{"B1", "=A1+A3+C1"}, "B1"},
		{"of a frame's cell to a constant", []string{"T!B1", "5"}, "T!B1"},
		{"of a frame's cell to nothing", []string{"U!B1", ""}, "U!B1"},
		{"of a frame's cell to a circle", []string{"B1", "=B1"}, "B1"},
		{"of two frames' cells, the last one first", []string{"U!B1", "=1", "B1", "2"}, "B1 U!B1"},
		{"of a cell that one uses by itself", []string{"C1", "7"}, "B1"},
		{"of one with the same contents", []string{"C1", "=T!C1"}, "B1"},
		{"of one in an area", []string{"T!A2", "8"}, "T!B1"},
		{"of an empty one in an area", []string{"T!A9", "8"}, "T!B1"},
		{"of an empty one in an area that stays empty", []string{"T!A8", ""}, "T!B1"},
		{"beside an area", []string{"T!A10", "8", "T!B9", "8", "T!C2", "1"}, ""},
		{"in an area that is not read", []string{"U!D9", "8"}, "U!B1"},
		{"of a cell that is not read", []string{"A2", "8"}, "B1 U!B1"},
		{"of one that one reaches through another", []string{"A2", "9", "Z9", "1"}, "B1 U!B1"},
		{"of one on another sheet", []string{"T!C1", "8"}, "B1"},
		{"through other sheets", []string{"A1", "1"}, "B1 T!B1 U!B1"},
		{"through other sheets and areas", []string{"T!A1", "=S!A1"}, "T!B1 U!B1"},
		{"that closes a circle through a frame's cell", []string{"A3", "=B1"}, "B1"},
		{"that closes a circle through two of them", []string{"T!C1", "=T!B1", "T!A3", "=S!B1"}, "B1 T!B1"},
	} {
		x := busy(t)
		var flights []api.Flight
		for task := range 3 {
			flights = append(flights, x.Flight(task))
		}
		edited(t, x, y.edit...)
		if got := names(x.Aborted()...); got != y.aborted {
			t.Errorf("an edit %s aborts %q, want %q", y.what, got, y.aborted)
		}
		for task, f := range flights {
			now := x.Flight(task)
			if slices.Contains(list(y.aborted), f.Cell) {
				if _, ok := x.Parked(task); ok || now.On {
					t.Errorf("an edit %s: %s has a frame", y.what, names(f.Cell))
				}
			} else if !sameFlight(now, f) {
				t.Errorf("an edit %s: %s has lost something: %v, ahead %v", y.what, names(f.Cell), now, f)
			}
		}
		settle(t, x)
	}
}

func TestAbortsByNewAndOld(t *testing.T) { // Promise 16.3: who reaches a cell by the new contents alone, by the old ones alone, and who reaches an edit's cell by none.
	x := settled(t, "A1", "1", "A2", "2", "A3", "=A2")
	edited(t, x, "B1", "=A3+1")
	ticked(t, x, 0, 1, 1)
	edited(t, x, "A1", "5") // B1 reaches it neither way
	abortedIs(t, x, "")
	parkedIs(t, x, 0, "B1", 1)
	edited(t, x, "A1", "6", "A3", "=A1") // by the new contents
	abortedIs(t, x, "B1")
	ticked(t, x, 0, 3, 3)
	parkedIs(t, x, 0, "B1", 1)
	edited(t, x, "A1", "7", "A3", "=A2") // by the old contents
	abortedIs(t, x, "B1")
	ticked(t, x, 0, 3, 3)
	parkedIs(t, x, 0, "B1", 1)
	edited(t, x, "A1", "8") // by the contents ahead of the last edit
	abortedIs(t, x, "")
	parkedIs(t, x, 0, "B1", 1)
	edited(t, x, "A2", "3", "A1", "")
	abortedIs(t, x, "B1")
	settle(t, x)
	valueIs(t, x, "B1", n(4))
}

func TestAbortedIsLost(t *testing.T) { // Promise 16.3, 16.6: what an aborted frame has done is lost: a new one begins from the first step, with the code that the cell has then.
	x := opened(t, "A1", "2", "B1", "=SUM(A1:A9)")
	ticked(t, x, 0, 11, 11)
	parkedIs(t, x, 0, "B1", 11)
	edited(t, x, "A5", "3")
	abortedIs(t, x, "B1")
	parkedIs(t, x, 0, "", 0)
	nextIs(t, x, 0, "B1")
	ticked(t, x, 0, 1, 1)
	parkedIs(t, x, 0, "B1", 1)
	edited(t, x, "B1", "=A1*A5")
	abortedIs(t, x, "B1")
	ticked(t, x, 0, 99, 4)
	valueIs(t, x, "B1", n(6))
	staleAre(t, x, "", "")
}

func TestAbortedGoesElsewhere(t *testing.T) { // Promises 16.3, 16.5: behind an abort the first ready cell comes, which may be another one, on levels as they are then.
	x := opened(t, "A1", "=1", "B1", "=2", "C1", "=A1+B1")
	ticked(t, x, 0, 1, 1)
	parkedIs(t, x, 0, "A1", 1)
	edited(t, x, "A1", "=B1")
	abortedIs(t, x, "A1")
	nextIs(t, x, 0, "B1")
	ticked(t, x, 0, 3, 3)
	parkedIs(t, x, 0, "A1", 1)
	edited(t, x, "A1", "=1", "A2", "=3")
	abortedIs(t, x, "A1")
	nextIs(t, x, 0, "A1")
	seen(t, x, 0, "A2")
	nextIs(t, x, 0, "A2")
}

func TestAbortedOfTheLast(t *testing.T) { // Promise 16.3: of the last accepted edit alone, by their tasks; of new tasks none; ticks, viewports and refused edits turn nothing of it.
	x := opened(t)
	abortedIs(t, x, "")
	x.Edit()
	x.Edit(put("A1", "=1+"))
	abortedIs(t, x, "")
	x = busy(t)
	edited(t, x, "T!C1", "1", "U!B1", "=2")
	abortedIs(t, x, "B1 U!B1")
	ticked(t, x, 2, 1, 1)
	ticked(t, x, 0, 3, 3)
	seen(t, x, 0, "A1:B2")
	tickRefused(t, x, 3, 1, api.ErrTask)
	if r := x.Edit(put("T!B1", "=1"), put("T!B1", "=2")); r.Code != api.ErrTwice {
		t.Error(r)
	}
	abortedIs(t, x, "B1 U!B1")
	edited(t, x, "Z9", "1")
	abortedIs(t, x, "")
	edited(t, x, "U!B1", "", "B1", "", "T!B1", "")
	abortedIs(t, x, "B1 T!B1 U!B1")
	edited(t, x, "B1", "=1")
	abortedIs(t, x, "")
}

func TestSixteenFrames(t *testing.T) { // Promise 16.3: as many tasks as there may be, all frames aborted at once, by their tasks.
	x, why := New(many(api.MaxSheets)...)
	if why != api.OK {
		t.Fatal(why)
	}
	var l []api.Change
	var cells []api.Cell
	for task := range api.MaxSheets {
		c := api.Cell{Sheet: task, Row: api.MaxSheets - task, Col: task}
		cells = append(cells, c)
		l = append(l, api.Change{Cell: c, Text: "=N7!Z9+1"})
	}
	slices.Reverse(l)
	taken(t, x, l...)
	for task := range api.MaxSheets {
		ticked(t, x, task, 1+task%3, 1+task%3)
		if p, ok := x.Parked(task); !ok || p != (api.Parked{Cell: cells[task], Steps: 1 + task%3}) {
			t.Error(p, ok)
		}
	}
	taken(t, x, api.Change{Cell: api.Cell{Sheet: 7, Row: 8, Col: 25}, Text: "4"})
	if !slices.Equal(x.Aborted(), cells) {
		t.Error(x.Aborted())
	}
	for task, c := range cells {
		ticked(t, x, task, 99, 4)
		if x.Value(c) != n(5) {
			t.Error(task, x.Value(c))
		}
	}
}

func TestEditAnswersAsMarks(t *testing.T) { // Promise 16.3: Edit does what the marks' does: contents, flags, Last, version.
	x := opened(t)
	m, _ := marks.New("S", "T", "U")
	for _, l := range [][]string{{"A1", "1", "B1", "=A1", "C1", "=B1"}, {"A1", "=C1"}, {"A1", "=1+"}, {"A1", "", "T!A1", "=S!C1"}, {"B1", "=1", "B1", "=2"}, {"B1", "7"}} {
		if got, want := x.Edit(puts(l...)...), m.Edit(puts(l...)...); got != want {
			t.Errorf("Edit(%q): %v, want %v", l, got, want)
		}
		if tellsMarks(x) != tellsMarks(m) {
			t.Errorf("Edit(%q) does another thing than the marks'", l)
		}
	}
}
