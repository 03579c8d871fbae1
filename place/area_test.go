package place

import (
	"math"
	"slices"
	"testing"

	"whittle/api"
)

// side is how many rows and columns the small areas lie in; there are few enough of them to try all, by twos and by threes.
const side = 3

func smallAreas(sheets int) []api.Area {
	var list []api.Area
	for s := range sheets {
		for top := range side {
			for bottom := top; bottom < side; bottom++ {
				for left := range side {
					for right := left; right < side; right++ {
						list = append(list, api.Area{Sheet: s, Top: top, Left: left, Bottom: bottom, Right: right})
					}
				}
			}
		}
	}
	return list
}

// cellsOf are an area's cells, by what it has.
func cellsOf(a api.Area) []api.Cell {
	var list []api.Cell
	for row := a.Top; row <= a.Bottom; row++ {
		for col := a.Left; col <= a.Right; col++ {
			list = append(list, api.Cell{Sheet: a.Sheet, Row: row, Col: col})
		}
	}
	return list
}

func common(a, b []api.Cell) []api.Cell {
	var list []api.Cell
	for _, c := range a {
		if slices.Contains(b, c) {
			list = append(list, c)
		}
	}
	return list
}

// Promise 3.3.
func TestOne(t *testing.T) {
	for _, c := range rightCells() {
		want := api.Area{Sheet: c.Sheet, Top: c.Row, Left: c.Col, Bottom: c.Row, Right: c.Col}
		if got, ok := One(c); got != want || !ok {
			t.Error("One of", c, "is", got, ok)
		}
	}
	for _, c := range wrongCells() {
		if got, ok := One(c); got != (api.Area{}) || ok {
			t.Error("One of", c, "is", got, ok)
		}
	}
}

func TestHull(t *testing.T) {
	last := api.Cell{Sheet: 15, Row: api.MaxRows - 1, Col: api.MaxCols - 1}
	for _, x := range []struct {
		cells []api.Cell
		want  api.Area
	}{
		{[]api.Cell{cell(2, 1), cell(4, 0), cell(3, 2)}, area(2, 0, 4, 2)},
		{[]api.Cell{cell(5, 5)}, area(5, 5, 5, 5)},
		{[]api.Cell{cell(5, 5), cell(5, 5)}, area(5, 5, 5, 5)},
		{[]api.Cell{cell(1, 9), cell(8, 2)}, area(1, 2, 8, 9)},
		{[]api.Cell{cell(8, 2), cell(1, 9)}, area(1, 2, 8, 9)},
		{[]api.Cell{last, {Sheet: 15}}, api.Area{Sheet: 15, Bottom: api.MaxRows - 1, Right: api.MaxCols - 1}},
		{[]api.Cell{last}, api.Area{Sheet: 15, Top: api.MaxRows - 1, Left: api.MaxCols - 1, Bottom: api.MaxRows - 1, Right: api.MaxCols - 1}},
	} {
		if got, ok := Hull(x.cells...); got != x.want || !ok {
			t.Error("Hull of", x.cells, "is", got, ok)
		}
	}
}

func TestHullNone(t *testing.T) {
	none := func(cs ...api.Cell) {
		if got, ok := Hull(cs...); got != (api.Area{}) || ok {
			t.Error("Hull of", cs, "is", got, ok)
		}
	}
	none()
	none([]api.Cell{}...)
	none(cell(0, 0), api.Cell{Sheet: 1})
	none(api.Cell{Sheet: 1}, cell(0, 0))
	none(cell(0, 0), cell(1, 1), api.Cell{Sheet: 15})
	none(api.Cell{Sheet: 16}, api.Cell{Sheet: 16})
	for _, c := range wrongCells() {
		none(c)
		none(c, c)
		none(cell(0, 0), c)
		none(c, cell(0, 0))
		none(cell(0, 0), cell(1, 1), c)
	}
}

// Rule R3: what is handed in stays as it is, its spare room too.
func TestHullLeavesItsList(t *testing.T) {
	room := []api.Cell{cell(4, 4), cell(1, 1), cell(7, 0), cell(9, 9)}
	kept := slices.Clone(room)
	Hull(room[:2]...)
	if !slices.Equal(room, kept) {
		t.Error("the list is", room)
	}
}

// Promises 3.3, 3.7: all areas in a corner of two sheets by twos; in the order of two nothing lies.
func TestMeet(t *testing.T) {
	for _, a := range smallAreas(2) {
		for _, b := range smallAreas(2) {
			got, ok := Meet(a, b)
			want := common(cellsOf(a), cellsOf(b))
			if ok != (len(want) > 0) || ok && !slices.Equal(cellsOf(got), want) || !ok && got != (api.Area{}) {
				t.Fatal("Meet of", a, b, "is", got, ok)
			}
			if back, met := Meet(b, a); back != got || met != ok {
				t.Fatal("Meet of", b, a, "is", back, met)
			}
		}
	}
}

func TestMeetEdges(t *testing.T) {
	all := area(0, 0, api.MaxRows-1, api.MaxCols-1)
	for _, x := range []struct {
		a, b, want api.Area
		ok         bool
	}{
		{area(0, 0, 5, 5), area(5, 0, 9, 5), area(5, 0, 5, 5), true},
		{area(0, 0, 5, 5), area(0, 5, 5, 9), area(0, 5, 5, 5), true},
		{area(0, 0, 5, 5), area(5, 5, 9, 9), area(5, 5, 5, 5), true},
		{area(0, 5, 5, 9), area(5, 0, 9, 5), area(5, 5, 5, 5), true},
		{area(0, 0, 5, 5), area(6, 0, 9, 5), api.Area{}, false},
		{area(0, 0, 5, 5), area(0, 6, 5, 9), api.Area{}, false},
		{area(0, 0, 5, 5), area(6, 6, 9, 9), api.Area{}, false},
		{area(2, 0, 3, 9), area(0, 4, 9, 4), area(2, 4, 3, 4), true},
		{all, area(7, 8, 9, 10), area(7, 8, 9, 10), true},
		{all, all, all, true},
		{all, area(api.MaxRows-1, api.MaxCols-1, api.MaxRows-1, api.MaxCols-1), area(api.MaxRows-1, api.MaxCols-1, api.MaxRows-1, api.MaxCols-1), true},
		{api.Area{Sheet: 15, Bottom: 3}, api.Area{Sheet: 15, Right: 3}, api.Area{Sheet: 15}, true},
		{api.Area{Sheet: 15, Bottom: 3}, api.Area{Sheet: 14, Bottom: 3}, api.Area{}, false},
	} {
		if got, ok := Meet(x.a, x.b); got != x.want || ok != x.ok {
			t.Error("Meet of", x.a, x.b, "is", got, ok)
		}
	}
}

func TestMeetWrong(t *testing.T) {
	for _, a := range wrongAreas() {
		for _, b := range append(rightAreas(), a, api.Area{Sheet: a.Sheet, Bottom: 9, Right: 9}) {
			if got, ok := Meet(a, b); got != (api.Area{}) || ok {
				t.Fatal("Meet of", a, b, "is", got, ok)
			}
			if got, ok := Meet(b, a); got != (api.Area{}) || ok {
				t.Fatal("Meet of", b, a, "is", got, ok)
			}
		}
	}
}

// Promise 3.7: it doesn't ask how three are grouped.
func TestMeetGroups(t *testing.T) {
	list := append(smallAreas(1), api.Area{Sheet: 1, Bottom: 2, Right: 2}, area(1, 0, 0, 0))
	grouped := func(a, b, c api.Area) (api.Area, bool) {
		ab, ok := Meet(a, b)
		if !ok {
			return api.Area{}, false
		}
		return Meet(ab, c)
	}
	for _, a := range list {
		for _, b := range list {
			for _, c := range list {
				one, met := grouped(a, b, c)
				if other, ok := grouped(b, c, a); one != other || met != ok {
					t.Fatal("Meet of", a, b, c, "is", one, met, other, ok)
				}
			}
		}
	}
}

// Promise 3.7: the hull has all the cells, and meets each area that has them in itself.
func TestHullIsLeast(t *testing.T) {
	cells := cellsOf(area(0, 0, side-1, side-1))
	for _, a := range cells {
		for _, b := range cells {
			for _, c := range cells {
				hull, ok := Hull(a, b, c)
				if !ok || !Has(hull, a) || !Has(hull, b) || !Has(hull, c) {
					t.Fatal("Hull of", a, b, c, "is", hull, ok)
				}
				for _, other := range smallAreas(1) {
					if !Has(other, a) || !Has(other, b) || !Has(other, c) {
						continue
					}
					if both, met := Meet(hull, other); both != hull || !met {
						t.Fatal("Hull of", a, b, c, "is", hull, "and meets", other, "in", both)
					}
				}
			}
		}
	}
}

// Promise 3.4.
func TestSize(t *testing.T) {
	for _, a := range smallAreas(2) {
		if got := Size(a); got != len(cellsOf(a)) {
			t.Error("Size of", a, "is", got)
		}
	}
	for a, want := range map[api.Area]int{area(0, 0, api.MaxRows-1, api.MaxCols-1): 1 << 24, area(3, 0, 3, api.MaxCols-1): api.MaxCols, area(0, 3, api.MaxRows-1, 3): api.MaxRows, area(9, 9, 9, 9): 1} {
		if got := Size(a); got != want {
			t.Error("Size of", a, "is", got)
		}
	}
	for _, a := range wrongAreas() {
		if got := Size(a); got != 0 {
			t.Error("Size of", a, "is", got)
		}
	}
}

// Promises 3.1, 3.4, 3.7: which cells an area has, and their numbers; At and Index undo one another.
func TestHasAtIndex(t *testing.T) {
	around := append(wrongCells(), api.Cell{Sheet: 2})
	for s := range 2 {
		around = append(around, cellsOf(api.Area{Sheet: s, Top: -1, Left: -1, Bottom: side, Right: side})...)
	}
	for _, a := range smallAreas(2) {
		cells := cellsOf(a)
		for k, c := range cells {
			if at, ok := At(a, k); at != c || !ok {
				t.Fatal("At of", a, k, "is", at, ok)
			}
		}
		for _, c := range around {
			k := slices.Index(cells, c)
			if Has(a, c) != (k >= 0) {
				t.Fatal("Has of", a, c)
			}
			if got, ok := Index(a, c); got != max(k, 0) || ok != (k >= 0) {
				t.Fatal("Index of", a, c, "is", got, ok)
			}
		}
	}
}

func TestAtNone(t *testing.T) {
	for _, a := range rightAreas() {
		for _, k := range outside(Size(a)) {
			if at, ok := At(a, k); at != (api.Cell{}) || ok {
				t.Error("At of", a, k, "is", at, ok)
			}
		}
	}
	for _, a := range wrongAreas() {
		for _, k := range []int{0, 1, -1, math.MaxInt, math.MinInt} {
			if at, ok := At(a, k); at != (api.Cell{}) || ok {
				t.Error("At of", a, k, "is", at, ok)
			}
		}
	}
}

func TestWrongAreaHasNone(t *testing.T) {
	for _, a := range wrongAreas() {
		for _, c := range append(rightCells(), api.Cell{Sheet: a.Sheet, Row: a.Top, Col: a.Left}, api.Cell{Sheet: a.Sheet, Row: a.Bottom, Col: a.Right}, cell(3, 4)) {
			if Has(a, c) {
				t.Fatal("Has of", a, c)
			}
			if k, ok := Index(a, c); k != 0 || ok {
				t.Fatal("Index of", a, c, "is", k, ok)
			}
		}
	}
}

// The last cells of great areas, by numbers that are known.
func TestAtTheEnd(t *testing.T) {
	for _, a := range rightAreas() {
		last := api.Cell{Sheet: a.Sheet, Row: a.Bottom, Col: a.Right}
		if at, ok := At(a, Size(a)-1); at != last || !ok {
			t.Error("At of the last of", a, "is", at, ok)
		}
		if k, ok := Index(a, last); k != Size(a)-1 || !ok {
			t.Error("Index of the last of", a, "is", k, ok)
		}
	}
	if at, _ := At(area(0, 0, api.MaxRows-1, api.MaxCols-1), 1000); at != cell(3, 232) {
		t.Error("At of 1000 is", at)
	}
}
