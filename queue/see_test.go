package queue

import (
	"slices"
	"testing"

	"whittle/api"
)

// block is a queue with A1 to C3 of the sheets S and T, on levels that fall from cell to cell.
func block() *Queue {
	q := New()
	for i, c := range blockCells() {
		q.Put(c, 99-i)
	}
	return q
}

// blockCells are its cells in the order of cells.
func blockCells() []api.Cell {
	return list("A1 B1 C1 A2 B2 C2 A3 B3 C3 T!A1 T!B1 T!C1 T!A2 T!B2 T!C2 T!A3 T!B3 T!C3")
}

// blockWith is how the block must stand, if these are seen: falling, both lanes.
func blockWith(seen string) string {
	ahead := list(seen)
	rest := slices.DeleteFunc(blockCells(), func(c api.Cell) bool { return slices.Contains(ahead, c) })
	slices.Reverse(ahead)
	slices.Reverse(rest)
	return names(append(ahead, rest...))
}

func TestSee(t *testing.T) { // Promise 14.1: of no area, one, several, several that overlap, of other sheets.
	for _, x := range []struct{ areas, seen string }{
		{"", ""},
		{"A1:A1", "A1"}, {"B2:C3", "B2 C2 B3 C3"}, {"T!A3:C3", "T!A3 T!B3 T!C3"}, {"A1:IV65536", names(blockCells()[:9])},
		{"A1:A1 C3:C3", "A1 C3"}, {"C3:C3 A1:A1", "A1 C3"}, {"A1:A3 T!B1:B2", "A1 A2 A3 T!B1 T!B2"},
		{"A1:B2 B2:C3", "A1 B1 A2 B2 C2 B3 C3"}, {"B2:B2 A1:C3 B2:B2", names(blockCells()[:9])},
		{"A1:C3 T!A1:C3", names(blockCells())}, {"U!A1:C3", ""}, {"D1:Z9 A4:C9 T!A4:A4", ""},
	} {
		q := block()
		q.See(areas(x.areas)...)
		waits(t, q, blockWith(x.seen))
	}
}

func TestSeeJustThese(t *testing.T) { // Promise 14.1: each time just these are seen, and no others; levels stay.
	q := block()
	for _, x := range []struct{ areas, seen string }{
		{"A1:A3", "A1 A2 A3"}, {"B1:B3", "B1 B2 B3"}, {"B1:B3", "B1 B2 B3"}, {"", ""}, {"B2:C2 T!C3:C3", "B2 C2 T!C3"}, {"C2:C3", "C2 C3"}, {"U!A1:A1", ""}, {"A1:C3 T!A1:C3", names(blockCells())}, {"", ""},
	} {
		q.See(areas(x.areas)...)
		waits(t, q, blockWith(x.seen))
	}
	for i, c := range blockCells() {
		levelIs(t, q, c, 99-i)
	}
}

func TestSeeWrong(t *testing.T) { // Promise 14.1: an area that is not right has no cell, whatever cells it would lie around.
	for _, a := range wrong() {
		q, m := New(), newModel()
		for i, c := range universe() {
			q.Put(c, -i)
			m.put(c, -i)
		}
		q.See(a)
		agrees(t, q, m, nil)
		q.See(a, area("B2:B3"), a)
		m.see(area("B2:B3"))
		agrees(t, q, m, nil)
		q.See(wrong()...)
		m.see()
		agrees(t, q, m, nil)
	}
}

func TestSeeCellsThatAreNotRight(t *testing.T) { // Promises 14.1, 14.2: they lie in no area, so they are never seen, and wait among the others.
	q := New()
	for _, c := range strange() {
		q.Put(c, least)
	}
	q.Put(at("A1"), most)
	for sheet := range api.MaxSheets {
		q.See(api.Area{Sheet: sheet, Bottom: api.MaxRows - 1, Right: api.MaxCols - 1})
		c, _ := q.First()
		if (c == at("A1")) != (sheet == 0) {
			t.Errorf("sheet %d seen: First %v", sheet, c)
		}
	}
}

func TestSeeEdges(t *testing.T) { // Promise 14.1: an area's last row and column are seen, too, and what lies just beyond is not.
	q := New()
	for _, c := range list("B1 A2 B2 C2 D2 A3 B3 C3 D3 A4 B4 C4 D4 B5 T!B2 IV65536") {
		q.Put(c, 1)
	}
	q.See(area("B2:C4"))
	waits(t, q, "B2 C2 B3 C3 B4 C4 B1 A2 D2 A3 D3 A4 D4 B5 IV65536 T!B2")
	q.See(area("IV65536:IV65536"))
	waits(t, q, "IV65536 B1 A2 B2 C2 D2 A3 B3 C3 D3 A4 B4 C4 D4 B5 T!B2")
}

func TestSeeAhead(t *testing.T) { // Promise 14.1: ahead of any Put as behind many.
	for _, seen := range []string{"", "A1:A9", "B2:C3 T!A1:B2", "A1:IV65536"} {
		ahead, behind := New(), block()
		ahead.See(areas(seen)...)
		waits(t, ahead, "")
		for i, c := range blockCells() {
			ahead.Put(c, 99-i)
		}
		behind.See(areas(seen)...)
		if tells(ahead) != tells(behind) {
			t.Errorf("See(%s) ahead: %s, behind: %s", seen, names(ahead.Cells()), names(behind.Cells()))
		}
	}
}

func TestSeeMany(t *testing.T) { // Promise 14.1: as many areas as one likes.
	q, m := New(), newModel()
	for row := range 600 {
		c := api.Cell{Sheet: row % 2, Row: row, Col: row % 5}
		q.Put(c, row%7)
		m.put(c, row%7)
	}
	var l []api.Area
	for row := 0; row < 600; row += 3 {
		l = append(l, api.Area{Top: row, Bottom: row, Right: row % 5})
	}
	q.See(l...)
	m.see(l...)
	agrees(t, q, m, nil)
}
