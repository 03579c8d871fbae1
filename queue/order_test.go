package queue

import (
	"slices"
	"testing"

	"whittle/api"
)

// rows are cells of three sheets in the order in which they must stand, their levels, and what is seen of them.
func rows() (inOrder []api.Cell, levels []int, seen []api.Area) {
	seen = areas("B1:B9 T!A1:A9 U!C3:C3")
	for _, x := range []struct {
		cells string
		level int
	}{
		{"U!C3", least}, {"B2 T!A1 T!A9", -1}, {"B1 B9", 0}, {"T!A2", 7}, {"B3 T!A3", most},
		{"A1 T!B1", least}, {"A2 B10 T!B2 U!A1 U!C2", -1}, {"A9 T!C1", 0}, {"A3 C3 A4 T!C9 U!B3", 7}, {"C1 U!C4", most},
	} {
		for _, c := range list(x.cells) {
			inOrder = append(inOrder, c)
			levels = append(levels, x.level)
		}
	}
	return inOrder, levels, seen
}

func TestOrder(t *testing.T) { // Promise 14.2: what is seen ahead of all others, then by level, rising, then in the order of cells, of several sheets too.
	l, levels, seen := rows()
	q := New()
	q.See(seen...)
	for i := range l {
		k := (i*11 + 5) % len(l)
		q.Put(l[k], levels[k])
	}
	waits(t, q, names(l))
}

func TestOrderOfTwo(t *testing.T) { // Promise 14.2: of any two the one that stands ahead goes ahead, whichever was put first.
	l, levels, seen := rows()
	for i := range l {
		for k := range i {
			for _, turn := range [][]int{{i, k}, {k, i}} {
				q := New()
				q.Put(l[turn[0]], levels[turn[0]])
				q.See(seen...)
				q.Put(l[turn[1]], levels[turn[1]])
				waits(t, q, names([]api.Cell{l[k], l[i]}))
			}
		}
	}
}

func TestOrderOfCells(t *testing.T) { // Promise 14.2: on one level by sheet, then row, then column, by the numbers as they are.
	rising := []api.Cell{{Sheet: least}, {Sheet: -1, Row: 9}, {Row: least}, {Row: -1, Col: 5}, {Col: least}, {Col: -1}, {}, {Col: 1}, {Col: 255}, {Col: most}, {Row: 1, Col: -9}, {Row: 1}, {Row: 2, Col: 1}, {Row: 10}, {Row: most}, {Sheet: 1, Row: -3}, {Sheet: 1}, {Sheet: 1, Col: 2}, {Sheet: 2}, {Sheet: most, Row: most, Col: most}}
	falling := slices.Clone(rising)
	slices.Reverse(falling)
	for _, l := range [][]api.Cell{rising, falling} {
		q := New()
		for _, c := range l {
			q.Put(c, 3)
		}
		if got := q.Cells(); !slices.Equal(got, rising) {
			t.Errorf("%v, want %v", got, rising)
		}
		firstIs(t, q, rising)
	}
}

func TestFirstAsCells(t *testing.T) { // Promise 14.2: First is the first of Cells behind every call; it turns nothing.
	l, levels, seen := rows()
	q := New()
	firstIs(t, q, q.Cells())
	for i, c := range l {
		q.Put(c, levels[i])
		firstIs(t, q, q.Cells())
		q.See(seen[:i%4]...)
		firstIs(t, q, q.Cells())
	}
	ahead := tells(q)
	for range 3 {
		q.First()
		q.Level(l[0])
		q.Len()
		q.Cells()
	}
	if tells(q) != ahead {
		t.Error("asking turned something")
	}
	for i := range l {
		q.Drop(l[(i*11+5)%len(l)])
		firstIs(t, q, q.Cells())
	}
	firstIs(t, q, nil)
}
