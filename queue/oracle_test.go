package queue

import (
	"maps"
	"slices"
	"sort"
	"testing"

	"whittle/api"
)

// model is a queue by the chapter's words: which cells wait, their levels, and what is seen; the order is found by sorting.
type model struct {
	levels map[api.Cell]int
	areas  []api.Area
}

func newModel() *model { return &model{levels: map[api.Cell]int{}} }

func (m *model) put(c api.Cell, level int) { m.levels[c] = level }

func (m *model) drop(c api.Cell) bool {
	_, was := m.levels[c]
	delete(m.levels, c)
	return was
}

func (m *model) see(areas ...api.Area) { m.areas = slices.Clone(areas) }

// sees: is the cell in an area that is seen?
func (m *model) sees(c api.Cell) bool {
	for _, a := range m.areas {
		rows := a.Top >= 0 && a.Top <= a.Bottom && a.Bottom < api.MaxRows
		cols := a.Left >= 0 && a.Left <= a.Right && a.Right < api.MaxCols
		sheet := a.Sheet >= 0 && a.Sheet < api.MaxSheets
		if rows && cols && sheet && c.Sheet == a.Sheet && a.Top <= c.Row && c.Row <= a.Bottom && a.Left <= c.Col && c.Col <= a.Right {
			return true
		}
	}
	return false
}

// ahead: does one that waits stand ahead of another?
func (m *model) ahead(a, b api.Cell) bool {
	if m.sees(a) != m.sees(b) {
		return m.sees(a)
	}
	if m.levels[a] != m.levels[b] {
		return m.levels[a] < m.levels[b]
	}
	if a.Sheet != b.Sheet {
		return a.Sheet < b.Sheet
	}
	if a.Row != b.Row {
		return a.Row < b.Row
	}
	return a.Col < b.Col
}

// cells are all that wait, in the order.
func (m *model) cells() []api.Cell {
	l := slices.Collect(maps.Keys(m.levels))
	sort.Slice(l, func(i, k int) bool { return m.ahead(l[i], l[k]) })
	return l
}

// agrees holds all that a queue tells against the model: of the cells that wait, and of these.
func agrees(t *testing.T, q *Queue, m *model, cells []api.Cell) {
	t.Helper()
	want := m.cells()
	if got := q.Cells(); !slices.Equal(got, want) {
		t.Fatalf("Cells: %s, want %s", names(got), names(want))
	}
	if got := q.Len(); got != len(want) {
		t.Fatalf("Len: %d, want %d", got, len(want))
	}
	firstIs(t, q, want)
	for _, c := range append(want, cells...) {
		if level, waits := m.levels[c]; waits {
			levelIs(t, q, c, level)
		} else {
			noLevel(t, q, c)
		}
	}
	if t.Failed() {
		t.FailNow()
	}
}
