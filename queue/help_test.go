package queue

import (
	"fmt"
	"slices"
	"strings"
	"testing"

	"whittle/api"
	"whittle/place"
)

const least, most = -1 << 63, 1<<63 - 1

// at is a cell by its name, with T! or U! ahead of one of the sheet 1 or 2.
func at(name string) api.Cell {
	sheet := 0
	for i, head := range []string{"T!", "U!"} {
		if rest, ok := strings.CutPrefix(name, head); ok {
			sheet, name = i+1, rest
		}
	}
	row, col, ok := place.Read(name)
	if !ok {
		panic("no cell: " + name)
	}
	return api.Cell{Sheet: sheet, Row: row, Col: col}
}

// list is cells by their names, with blanks between.
func list(names string) []api.Cell {
	var l []api.Cell
	for _, name := range strings.Fields(names) {
		l = append(l, at(name))
	}
	return l
}

// area is one by the names of its corners, of the sheet of the first one.
func area(name string) api.Area {
	first, last, _ := strings.Cut(name, ":")
	a, b := at(first), at(last)
	return api.Area{Sheet: a.Sheet, Top: a.Row, Left: a.Col, Bottom: b.Row, Right: b.Col}
}

// areas are those of these names, with blanks between.
func areas(names string) []api.Area {
	var l []api.Area
	for _, name := range strings.Fields(names) {
		l = append(l, area(name))
	}
	return l
}

// names is cells as they are read by list.
func names(l []api.Cell) string {
	var s []string
	for _, c := range l {
		name := place.Name(c)
		if c.Sheet < 0 || c.Sheet > 2 || name == "" {
			name = fmt.Sprint(c)
		} else {
			name = []string{"", "T!", "U!"}[c.Sheet] + name
		}
		s = append(s, name)
	}
	return strings.Join(s, " ")
}

// strange are cells that are not right.
func strange() []api.Cell {
	var l []api.Cell
	for _, n := range []int{-1, api.MaxSheets, least, most} {
		l = append(l, api.Cell{Sheet: n})
	}
	for _, n := range []int{-1, api.MaxRows, least, most} {
		l = append(l, api.Cell{Row: n})
	}
	for _, n := range []int{-1, api.MaxCols, least, most} {
		l = append(l, api.Cell{Col: n})
	}
	return append(l, api.Cell{Sheet: -1, Row: -1, Col: -1}, api.Cell{Sheet: least, Row: least, Col: least}, api.Cell{Sheet: most, Row: most, Col: most})
}

// wrong are areas that have no cell, though some have numbers between their corners.
func wrong() []api.Area {
	return []api.Area{
		{Top: 1, Bottom: 0, Right: 9}, {Left: 1, Right: 0, Bottom: 9}, {Top: 9, Left: 9},
		{Sheet: -1, Bottom: 9, Right: 9}, {Sheet: api.MaxSheets, Bottom: 9, Right: 9},
		{Top: -1, Bottom: 9, Right: 9}, {Bottom: api.MaxRows, Right: 9},
		{Left: -1, Bottom: 9, Right: 9}, {Bottom: 9, Right: api.MaxCols},
		{Top: least, Left: least, Bottom: most, Right: most}, {Sheet: least, Bottom: 9, Right: 9}, {Sheet: most, Bottom: 9, Right: 9},
	}
}

// universe are the cells with which the tests try whatever comes: some of three sheets, corners of the last one, and those that are not right.
func universe() []api.Cell {
	l := strange()
	for sheet := range 3 {
		for row := range 4 {
			for col := range 3 {
				l = append(l, api.Cell{Sheet: sheet, Row: row, Col: col})
			}
		}
	}
	last := api.Cell{Sheet: api.MaxSheets - 1, Row: api.MaxRows - 1, Col: api.MaxCols - 1}
	return append(l, last, api.Cell{Sheet: last.Sheet}, api.Cell{Row: last.Row}, api.Cell{Col: last.Col})
}

// with is a queue in which these wait: names and levels by turns.
func with(l ...any) *Queue {
	q := New()
	for i := 0; i < len(l); i += 2 {
		q.Put(at(l[i].(string)), l[i+1].(int))
	}
	return q
}

// waits holds all that a queue tells of the cells that wait against their names, in order.
func waits(t *testing.T, q *Queue, want string) {
	t.Helper()
	l := list(want)
	if got := q.Cells(); !slices.Equal(got, l) {
		t.Errorf("Cells: %s, want %s", names(got), want)
	}
	if got := q.Len(); got != len(l) {
		t.Errorf("Len: %d, want %d", got, len(l))
	}
	firstIs(t, q, l)
}

// firstIs holds First against the first of these.
func firstIs(t *testing.T, q *Queue, l []api.Cell) {
	t.Helper()
	var want api.Cell
	if len(l) > 0 {
		want = l[0]
	}
	if got, ok := q.First(); got != want || ok != (len(l) > 0) {
		t.Errorf("First: %v %v, want %v of %d", got, ok, want, len(l))
	}
}

// levelIs holds the level of a cell that waits.
func levelIs(t *testing.T, q *Queue, c api.Cell, want int) {
	t.Helper()
	if got, ok := q.Level(c); got != want || !ok {
		t.Errorf("Level(%v): %d %v, want %d", c, got, ok, want)
	}
}

// noLevel holds that a cell does not wait.
func noLevel(t *testing.T, q *Queue, c api.Cell) {
	t.Helper()
	if got, ok := q.Level(c); got != 0 || ok {
		t.Errorf("Level(%v): %d %v, and it does not wait", c, got, ok)
	}
}

// dropped holds what Drop answers.
func dropped(t *testing.T, q *Queue, c api.Cell, want bool) {
	t.Helper()
	if got := q.Drop(c); got != want {
		t.Errorf("Drop(%v): %v", c, got)
	}
}

// tells is all that a queue tells.
func tells(q *Queue) string {
	var s strings.Builder
	c, ok := q.First()
	fmt.Fprintln(&s, c, ok, q.Len(), q.Cells())
	for _, c := range append(universe(), q.Cells()...) {
		level, ok := q.Level(c)
		fmt.Fprintln(&s, c, level, ok)
	}
	return s.String()
}
