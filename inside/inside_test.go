package inside

import (
	"slices"
	"testing"

	"whittle/api"
	"whittle/place"
)

// kept is a map of some cells around the area B2:C3 of sheet 1, each with a number of its own.
func kept() map[api.Cell]int {
	m := map[api.Cell]int{}
	for sheet := range 3 {
		for row := range 4 {
			for col := range 4 {
				if row != 2 || col != 1 {
					m[api.Cell{Sheet: sheet, Row: row, Col: col}] = sheet*100 + row*10 + col
				}
			}
		}
	}
	return m
}

// found are the numbers that a map keeps in an area, rising.
func found(t *testing.T, m map[api.Cell]int, a api.Area) []int {
	t.Helper()
	var l []int
	for c, n := range Of(m, a) {
		if !place.Has(a, c) || m[c] != n {
			t.Errorf("%v, %d in %v", c, n, a)
		}
		l = append(l, n)
	}
	slices.Sort(l)
	return l
}

func TestCells(t *testing.T) {
	l := slices.Collect(Cells(api.Area{Sheet: 1, Top: 1, Left: 2, Bottom: 2, Right: 3}))
	if !slices.Equal(l, []api.Cell{{Sheet: 1, Row: 1, Col: 2}, {Sheet: 1, Row: 1, Col: 3}, {Sheet: 1, Row: 2, Col: 2}, {Sheet: 1, Row: 2, Col: 3}}) {
		t.Error(l)
	}
	for _, a := range []api.Area{{Sheet: -1}, {Top: 1}, {Left: 3, Right: 2}, {Bottom: api.MaxRows}} {
		if l := slices.Collect(Cells(a)); len(l) != 0 {
			t.Errorf("%v has %v", a, l)
		}
	}
}

func TestOfSmallAreas(t *testing.T) { // Areas of fewer cells than are kept.
	a := api.Area{Sheet: 1, Top: 1, Left: 1, Bottom: 2, Right: 2}
	if l := found(t, kept(), a); !slices.Equal(l, []int{111, 112, 122}) {
		t.Error(l)
	}
	if l := found(t, kept(), api.Area{Sheet: 1, Top: 2, Left: 1, Bottom: 2, Right: 1}); len(l) != 0 {
		t.Error(l)
	}
}

func TestOfGreatAreas(t *testing.T) { // Areas of more cells than are kept.
	a := api.Area{Sheet: 1, Top: 2, Left: 1, Bottom: api.MaxRows - 1, Right: api.MaxCols - 1}
	if l := found(t, kept(), a); !slices.Equal(l, []int{122, 123, 131, 132, 133}) {
		t.Error(l)
	}
	if l := found(t, map[api.Cell]int{}, a); len(l) != 0 {
		t.Error(l)
	}
	if l := found(t, kept(), api.Area{Sheet: 3, Bottom: 99, Right: 99}); len(l) != 0 {
		t.Error(l)
	}
}

func TestOfNoAreas(t *testing.T) { // What is no area has no cell.
	for _, a := range []api.Area{{Sheet: -1, Bottom: 3, Right: 3}, {Top: 3, Right: 3}, {Bottom: api.MaxRows, Right: 3}} {
		if l := found(t, kept(), a); len(l) != 0 {
			t.Errorf("%v has %v", a, l)
		}
	}
}

func TestGivenUp(t *testing.T) { // Whoever goes through them may stop at any.
	for _, a := range []api.Area{{Bottom: 3, Right: 3}, {Bottom: 999, Right: 99}} {
		n := 0
		for range Of(kept(), a) {
			n++
			if n == 5 {
				break
			}
		}
		for range Cells(a) {
			n++
			if n == 10 {
				break
			}
		}
		if n != 10 {
			t.Errorf("%d of %v", n, a)
		}
	}
}

func TestAny(t *testing.T) {
	areas := []api.Area{{Sheet: 1, Top: 1, Left: 1, Bottom: 2, Right: 2}, {Top: 5, Bottom: 4}, {Sheet: 1, Top: 2, Left: 2, Bottom: 9, Right: 2}}
	for c, want := range map[api.Cell]bool{
		{Sheet: 1, Row: 1, Col: 1}: true, {Sheet: 1, Row: 2, Col: 2}: true, {Sheet: 1, Row: 9, Col: 2}: true,
		{Row: 1, Col: 1}: false, {Sheet: 1, Row: 3, Col: 1}: false, {Sheet: 1, Row: 10, Col: 2}: false, {Row: 5}: false, {Sheet: -1, Row: -1}: false,
	} {
		if got := Any(areas, c); got != want {
			t.Errorf("Any of %v: %v", c, got)
		}
		if Any(nil, c) {
			t.Errorf("no area has %v", c)
		}
	}
}
