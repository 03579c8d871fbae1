package place

import (
	"math"
	"slices"
	"testing"

	"whittle/api"
)

func cell(row, col int) api.Cell { return api.Cell{Row: row, Col: col} }

func area(top, left, bottom, right int) api.Area {
	return api.Area{Top: top, Left: left, Bottom: bottom, Right: right}
}

// named is the cell of sheet 0 with a name, block the area with one.
func named(t *testing.T, s string) api.Cell {
	t.Helper()
	row, col, ok := Read(s)
	if !ok {
		t.Fatal("Read of", s)
	}
	return cell(row, col)
}

func block(t *testing.T, s string) api.Area {
	t.Helper()
	top, left, bottom, right, ok := ReadArea(s)
	if !ok {
		t.Fatal("ReadArea of", s)
	}
	return area(top, left, bottom, right)
}

// outside are numbers that lie outside of 0 to limit - 1.
func outside(limit int) []int {
	return []int{-1, -2, limit, limit + 1, math.MaxInt, math.MinInt, math.MaxInt - 1, math.MinInt + 1, 1 << 32, -1 << 32}
}

// rightCells are those at the edges of what is right; wrongCells have one number that is not, or all.
func rightCells() []api.Cell {
	var list []api.Cell
	for _, s := range []int{0, 1, api.MaxSheets - 1} {
		for _, r := range []int{0, 1, 9, api.MaxRows - 2, api.MaxRows - 1} {
			for _, c := range []int{0, 1, 25, 26, 27, api.MaxCols - 2, api.MaxCols - 1} {
				list = append(list, api.Cell{Sheet: s, Row: r, Col: c})
			}
		}
	}
	return list
}

func wrongCells() []api.Cell {
	list := []api.Cell{{Sheet: -1, Row: -1, Col: -1}, {Sheet: api.MaxSheets, Row: api.MaxRows, Col: api.MaxCols}}
	for _, c := range []api.Cell{{}, {Sheet: 3, Row: 4, Col: 5}, {Sheet: api.MaxSheets - 1, Row: api.MaxRows - 1, Col: api.MaxCols - 1}} {
		for _, n := range outside(api.MaxSheets) {
			list = append(list, api.Cell{Sheet: n, Row: c.Row, Col: c.Col})
		}
		for _, n := range outside(api.MaxRows) {
			list = append(list, api.Cell{Sheet: c.Sheet, Row: n, Col: c.Col})
		}
		for _, n := range outside(api.MaxCols) {
			list = append(list, api.Cell{Sheet: c.Sheet, Row: c.Row, Col: n})
		}
	}
	return list
}

// rightAreas are those of one cell, of a row, of a column, and the greatest one among them; wrongAreas have one number that is not right, or two in the wrong order.
func rightAreas() []api.Area {
	var list []api.Area
	for _, s := range []int{0, api.MaxSheets - 1} {
		for _, r := range [][2]int{{0, 0}, {0, 1}, {3, 7}, {0, api.MaxRows - 1}, {api.MaxRows - 1, api.MaxRows - 1}} {
			for _, c := range [][2]int{{0, 0}, {0, 1}, {2, 5}, {0, api.MaxCols - 1}, {api.MaxCols - 1, api.MaxCols - 1}} {
				list = append(list, api.Area{Sheet: s, Top: r[0], Left: c[0], Bottom: r[1], Right: c[1]})
			}
		}
	}
	return list
}

func wrongAreas() []api.Area {
	list := []api.Area{area(1, 0, 0, 0), area(0, 1, 0, 0), area(1, 1, 0, 0), area(api.MaxRows-1, 0, api.MaxRows-2, 3), area(0, api.MaxCols-1, 3, 0)}
	for _, a := range []api.Area{{}, area(2, 3, 4, 5), area(0, 0, api.MaxRows-1, api.MaxCols-1)} {
		for _, n := range outside(api.MaxSheets) {
			b := a
			b.Sheet = n
			list = append(list, b)
		}
		for _, n := range outside(api.MaxRows) {
			b, c, d := a, a, a
			b.Top, c.Bottom, d.Top, d.Bottom = n, n, n, n
			list = append(list, b, c, d)
		}
		for _, n := range outside(api.MaxCols) {
			b, c, d := a, a, a
			b.Left, c.Right, d.Left, d.Right = n, n, n, n
			list = append(list, b, c, d)
		}
	}
	return list
}

// Promise 3.1.
func TestRight(t *testing.T) {
	for _, c := range rightCells() {
		if !Right(c) {
			t.Error(c, "is not right")
		}
	}
	for _, c := range wrongCells() {
		if Right(c) {
			t.Error(c, "is right")
		}
	}
}

func TestRightArea(t *testing.T) {
	for _, a := range rightAreas() {
		if !RightArea(a) {
			t.Error(a, "is not right")
		}
	}
	for _, a := range wrongAreas() {
		if RightArea(a) {
			t.Error(a, "is right")
		}
	}
}

// Promise 3.5.
func TestShift(t *testing.T) {
	for _, x := range []struct {
		from       api.Cell
		rows, cols int
		to         api.Cell
	}{
		{cell(1, 1), -1, 1, cell(0, 2)},
		{cell(1, 1), 0, 0, cell(1, 1)},
		{cell(1, 1), 3, -1, cell(4, 0)},
		{api.Cell{Sheet: 15, Row: 7, Col: 8}, 2, 3, api.Cell{Sheet: 15, Row: 9, Col: 11}},
		{cell(0, 0), api.MaxRows - 1, api.MaxCols - 1, cell(api.MaxRows-1, api.MaxCols-1)},
		{cell(api.MaxRows-1, api.MaxCols-1), 1 - api.MaxRows, 1 - api.MaxCols, cell(0, 0)},
	} {
		if to, ok := Shift(x.from, x.rows, x.cols); to != x.to || !ok {
			t.Error("Shift of", x.from, "by", x.rows, x.cols, "is", to, ok)
		}
	}
}

func TestShiftNowhere(t *testing.T) {
	none := func(c api.Cell, rows, cols int) {
		if to, ok := Shift(c, rows, cols); to != (api.Cell{}) || ok {
			t.Error("Shift of", c, "by", rows, cols, "is", to, ok)
		}
	}
	for _, c := range rightCells() {
		far := []int{math.MaxInt, math.MinInt, math.MaxInt - 1, math.MinInt + 1, api.MaxRows, -api.MaxRows}
		for _, n := range append(far, -c.Row-1, api.MaxRows-c.Row) {
			none(c, n, 0)
		}
		for _, n := range append(far, -c.Col-1, api.MaxCols-c.Col) {
			none(c, 0, n)
			none(c, n, n)
		}
	}
	for _, c := range wrongCells() {
		none(c, 0, 0)
	}
	none(cell(-1, 0), 1, 0)
	none(cell(0, api.MaxCols), 0, -1)
	none(api.Cell{Sheet: -1}, 1, 1)
}

// Promise 3.5: the numbers are taken as they are, so what is no cell stands in the order, too.
func TestBefore(t *testing.T) {
	list := []api.Cell{
		{Sheet: math.MinInt, Row: math.MaxInt, Col: math.MaxInt},
		{Sheet: -1, Row: 9, Col: 9},
		{Row: math.MinInt, Col: 7},
		{Row: -1, Col: math.MaxInt},
		{Col: math.MinInt},
		{Col: -1},
		{},
		{Col: 1},
		{Col: api.MaxCols},
		{Row: 1, Col: -7},
		{Row: 1},
		{Row: api.MaxRows},
		{Sheet: 1},
		{Sheet: 1, Row: 1},
		{Sheet: math.MaxInt, Row: math.MinInt, Col: math.MinInt},
	}
	for i, a := range list {
		for k, b := range list {
			if Before(a, b) != (i < k) {
				t.Error("Before of", a, b)
			}
		}
	}
}

// Promise 3.8.
func TestShiftBack(t *testing.T) {
	steps := []int{0, 1, -1, 7, -7, 255, -255, 65535, -65535}
	there := 0
	for _, c := range rightCells() {
		for _, rows := range steps {
			for _, cols := range steps {
				to, ok := Shift(c, rows, cols)
				if !ok {
					continue
				}
				there++
				if back, ok := Shift(to, -rows, -cols); back != c || !ok || !Right(to) {
					t.Error("Shift of", c, "by", rows, cols, "and back is", back, ok)
				}
			}
		}
	}
	if there < 1000 {
		t.Error("but", there, "cells were shifted")
	}
}

func TestBeforeIsAnOrder(t *testing.T) {
	cells := append(rightCells(), wrongCells()...)
	for _, a := range cells {
		for _, b := range cells {
			if (a == b) != (!Before(a, b) && !Before(b, a)) || Before(a, b) && Before(b, a) {
				t.Fatal("Before of", a, b)
			}
			if !Before(a, b) {
				continue
			}
			if i := slices.IndexFunc(cells, func(c api.Cell) bool { return Before(b, c) && !Before(a, c) }); i >= 0 {
				t.Fatal("Before of", a, b, cells[i])
			}
		}
	}
}
