package block

import (
	"fmt"
	"math"
	"slices"
	"strings"
	"testing"

	"whittle/api"
	"whittle/place"
	"whittle/undo"
)

// area is one by its name, a cell's or two with a colon between, with T! ahead of one of the sheet 1.
func area(name string) api.Area {
	rest, onT := strings.CutPrefix(name, "T!")
	if !strings.Contains(rest, ":") {
		rest += ":" + rest
	}
	top, left, bottom, right, ok := place.ReadArea(rest)
	if !ok {
		panic("no area: " + name)
	}
	a := api.Area{Top: top, Left: left, Bottom: bottom, Right: right}
	if onT {
		a.Sheet = 1
	}
	return a
}

// at is the first cell of an area by its name.
func at(name string) api.Cell {
	a := area(name)
	return api.Cell{Sheet: a.Sheet, Row: a.Top, Col: a.Left}
}

// put is a change of a cell, by its name.
func put(name, text string) api.Change { return api.Change{Cell: at(name), Text: text} }

// opened is an undo of the sheets S and T in which one edit was done: names and texts by turns.
func opened(t *testing.T, l ...string) *undo.Undo {
	t.Helper()
	u, why := undo.New("S", "T")
	if u == nil || why != api.OK {
		t.Fatalf("New: %d", why)
	}
	if len(l) > 0 {
		edited(t, u, l...)
	}
	return u
}

// edited is an edit that must be accepted: names and texts by turns.
func edited(t *testing.T, u *undo.Undo, l ...string) {
	t.Helper()
	var changes []api.Change
	for i := 0; i < len(l); i += 2 {
		changes = append(changes, put(l[i], l[i+1]))
	}
	if r := u.Edit(changes...); r != (api.Refusal{}) {
		t.Fatalf("Edit(%.300q): %v", l, r)
	}
}

// ticked does steps of all tasks, as many as there are up to a budget each.
func ticked(t *testing.T, u *undo.Undo, budget int) {
	t.Helper()
	for task := range u.Sheets() {
		if _, why := u.Tick(task, budget); why != api.OK {
			t.Fatal(why)
		}
	}
}

// settle ticks until nothing is stale.
func settle(t *testing.T, u *undo.Undo) {
	t.Helper()
	for !u.Idle() {
		ticked(t, u, math.MaxInt)
	}
}

// holds holds what cells hold: names and texts by turns.
func holds(t *testing.T, u *undo.Undo, l ...string) {
	t.Helper()
	for i := 0; i < len(l); i += 2 {
		if got := u.Text(at(l[i])); got != l[i+1] {
			t.Errorf("%s holds %q, want %q", l[i], got, l[i+1])
		}
	}
}

// tells is all that an undo has been brought to.
func tells(u *undo.Undo) string {
	back, forth := u.Steps()
	touched, _ := u.Since(0)
	last, _ := u.Since(max(u.Moment()-1, 0))
	return fmt.Sprint(u.State(), u.Last(), u.Aborted(), u.Moment(), touched, last, back, forth)
}

// contents is all that stands in an undo's cells.
func contents(u *undo.Undo) string {
	var s strings.Builder
	for sheet := range u.Sheets() {
		for _, c := range u.Cells(sheet) {
			fmt.Fprintf(&s, "%v %q\n", c, u.Text(c))
		}
	}
	return s.String()
}

// taken is a call that must do one edit; one Undo takes it back, and a Redo does it again.
func taken(t *testing.T, u *undo.Undo, what string, call func() api.Refusal) {
	t.Helper()
	version, moment, ahead := u.Version(), u.Moment(), contents(u)
	if r := call(); r != (api.Refusal{}) {
		t.Fatalf("%s: %v", what, r)
	}
	behind := contents(u)
	if u.Version() != version+1 || u.Moment() != moment+1 {
		t.Fatalf("%s: version %d, moment %d, ahead %d, %d", what, u.Version(), u.Moment(), version, moment)
	}
	if why := u.Undo(); why != api.OK || contents(u) != ahead {
		t.Fatalf("%s, taken back: %d, %s, want %s", what, why, contents(u), ahead)
	}
	if why := u.Redo(); why != api.OK || contents(u) != behind {
		t.Fatalf("%s, done again: %d, %s, want %s", what, why, contents(u), behind)
	}
}

// refused is a call that must be refused, and turn nothing.
func refused(t *testing.T, u *undo.Undo, what string, want api.Refusal, call func() api.Refusal) {
	t.Helper()
	ahead := tells(u)
	if r := call(); r != want {
		t.Errorf("%s: %v, want %v", what, r, want)
	}
	if tells(u) != ahead {
		t.Errorf("%s, refused, has turned what is told", what)
	}
}

// copied is a Copy that must be taken.
func copied(t *testing.T, u *undo.Undo, from, to string) {
	t.Helper()
	taken(t, u, "Copy("+from+", "+to+")", func() api.Refusal { return Copy(u, area(from), at(to)) })
}

// noCopy is a Copy that must be refused.
func noCopy(t *testing.T, u *undo.Undo, from api.Area, to api.Cell, want api.Refusal) {
	t.Helper()
	refused(t, u, fmt.Sprint("Copy", from, to), want, func() api.Refusal { return Copy(u, from, to) })
}

// filled is a Fill that must be taken.
func filled(t *testing.T, u *undo.Undo, from, to string) {
	t.Helper()
	taken(t, u, "Fill("+from+", "+to+")", func() api.Refusal { return Fill(u, at(from), area(to)) })
}

// noFill is a Fill that must be refused.
func noFill(t *testing.T, u *undo.Undo, from api.Cell, to api.Area, want api.Refusal) {
	t.Helper()
	refused(t, u, fmt.Sprint("Fill", from, to), want, func() api.Refusal { return Fill(u, from, to) })
}

// cleared is a Clear that must be taken.
func cleared(t *testing.T, u *undo.Undo, a string) {
	t.Helper()
	taken(t, u, "Clear("+a+")", func() api.Refusal { return Clear(u, area(a)) })
}

// laid is a Lay that must be taken.
func laid(t *testing.T, u *undo.Undo, to string, rows ...string) {
	t.Helper()
	taken(t, u, fmt.Sprintf("Lay(%s, %.300q)", to, rows), func() api.Refusal { return Lay(u, at(to), rows...) })
}

// noLay is a Lay that must be refused.
func noLay(t *testing.T, u *undo.Undo, to api.Cell, want api.Refusal, rows ...string) {
	t.Helper()
	what := fmt.Sprintf("Lay(%v, %.300q)", to, rows)
	refused(t, u, what, want, func() api.Refusal { return Lay(u, to, rows...) })
}

// textIs holds what Text tells of an area, and that it turns nothing.
func textIs(t *testing.T, u *undo.Undo, a string, want ...string) {
	t.Helper()
	ahead := tells(u)
	if got, why := Text(u, area(a)); !slices.Equal(got, want) || why != api.OK {
		t.Errorf("Text(%s): %q, %d, want %q", a, got, why, want)
	}
	if tells(u) != ahead {
		t.Errorf("Text(%s) has turned what is told", a)
	}
}

// tableIs holds what Table tells of an area, and that it turns nothing.
func tableIs(t *testing.T, u *undo.Undo, a string, want ...string) {
	t.Helper()
	ahead := tells(u)
	if got, why := Table(u, area(a)); !slices.Equal(got, want) || why != api.OK {
		t.Errorf("Table(%s): %q, %d, want %q", a, got, why, want)
	}
	if tells(u) != ahead {
		t.Errorf("Table(%s) has turned what is told", a)
	}
}

// strange are cells that no book of two sheets has.
func strange() []api.Cell {
	l := []api.Cell{{Sheet: 2}, {Sheet: -1, Row: -1, Col: -1}, {Sheet: 2, Row: api.MaxRows}}
	for _, n := range []int{-1, api.MaxSheets - 1, api.MaxSheets, math.MinInt, math.MaxInt} {
		l = append(l, api.Cell{Sheet: n})
	}
	for _, n := range []int{-1, api.MaxRows, math.MinInt, math.MaxInt} {
		l = append(l, api.Cell{Row: n})
	}
	for _, n := range []int{-1, api.MaxCols, math.MinInt, math.MaxInt} {
		l = append(l, api.Cell{Col: n})
	}
	return l
}

// noBlocks are areas that are no blocks of a book of two sheets: such as are none, too great ones, and those of no sheet.
func noBlocks() []api.Area {
	l := []api.Area{
		area("A1:A257"), area("A1:Q16"), area("A1:P17"), area("T!A1:IV2"), area("A1:IV65536"), area("T!IV1:IV65536"), area("A65280:A65536"),
		{Sheet: 2}, {Top: 1}, {Left: 1}, {Top: 2, Bottom: 1, Right: 5}, {Left: 2, Right: 1, Bottom: 5}, {Bottom: -1}, {Right: -1}, {Top: -1}, {Left: -1}, {Top: -1, Bottom: -1},
	}
	for _, n := range []int{math.MinInt, math.MinInt + 1, -1, api.MaxSheets - 1, api.MaxSheets, math.MaxInt} {
		l = append(l, api.Area{Sheet: n}, api.Area{Sheet: n, Top: 1})
	}
	for _, n := range []int{math.MinInt, math.MinInt + 1, -1, api.MaxRows, math.MaxInt} {
		l = append(l, api.Area{Top: n, Bottom: n}, api.Area{Left: n, Right: n}, api.Area{Top: n}, api.Area{Left: n}, api.Area{Bottom: n}, api.Area{Right: n})
	}
	return append(l, api.Area{Left: api.MaxCols, Right: api.MaxCols}, api.Area{Right: api.MaxCols}, api.Area{Top: math.MinInt, Left: math.MinInt, Bottom: math.MaxInt, Right: math.MaxInt})
}

// full fills a book up to MaxCells cells with contents, in T.
func full(t *testing.T, u *undo.Undo) {
	t.Helper()
	for row := 100; u.Len() < api.MaxCells; row++ {
		var l []api.Change
		for col := range min(api.MaxBatch, api.MaxCells-u.Len()) {
			l = append(l, api.Change{Cell: api.Cell{Sheet: 1, Row: row, Col: col}, Text: "7"})
		}
		if r := u.Edit(l...); r != (api.Refusal{}) {
			t.Fatal(r)
		}
	}
}
