package place

import (
	"slices"

	"whittle/api"
)

// sheet is the number of a sheet.
type sheet int

// lacks: is c no cell of it?
func (s sheet) lacks(c api.Cell) bool { return c.Sheet != int(s) || !Right(c) }

// One is the area that has just c; false, if c is no cell.
func One(c api.Cell) (api.Area, bool) { return Hull(c) }

// Hull is the least area that has all the cells; false, if there is none such.
func Hull(cs ...api.Cell) (api.Area, bool) {
	if len(cs) == 0 || slices.ContainsFunc(cs, sheet(cs[0].Sheet).lacks) {
		return api.Area{}, false
	}
	c := cs[0]
	a := api.Area{Sheet: c.Sheet, Top: c.Row, Left: c.Col, Bottom: c.Row, Right: c.Col}
	for _, c := range cs[1:] {
		a.Top, a.Bottom = min(a.Top, c.Row), max(a.Bottom, c.Row)
		a.Left, a.Right = min(a.Left, c.Col), max(a.Right, c.Col)
	}
	return a, true
}

// Meet is the area that two have in common; false, if they have nothing so.
func Meet(a, b api.Area) (api.Area, bool) {
	both := api.Area{Sheet: a.Sheet, Top: max(a.Top, b.Top), Left: max(a.Left, b.Left), Bottom: min(a.Bottom, b.Bottom), Right: min(a.Right, b.Right)}
	if a.Sheet != b.Sheet || !RightArea(a) || !RightArea(b) || !RightArea(both) {
		return api.Area{}, false
	}
	return both, true
}

// Size is how many cells it has; 0, if it is no area.
func Size(a api.Area) int {
	if !RightArea(a) {
		return 0
	}
	return (a.Bottom - a.Top + 1) * width(a)
}

// Has: is a an area, and c one of its cells?
func Has(a api.Area, c api.Cell) bool {
	// Whether it is an area is asked last: of many areas most don't have c, and that is told sooner.
	return c.Sheet == a.Sheet && c.Row >= a.Top && c.Row <= a.Bottom && c.Col >= a.Left && c.Col <= a.Right && RightArea(a)
}

// At is its cell number k; false, if there is none.
func At(a api.Area, k int) (api.Cell, bool) {
	if !below(k, Size(a)) {
		return api.Cell{}, false
	}
	return numbered(a, k), true
}

// Index is the number of c in it; false, if c is none of its cells.
func Index(a api.Area, c api.Cell) (int, bool) {
	if !Has(a, c) {
		return 0, false
	}
	return (c.Row-a.Top)*width(a) + c.Col - a.Left, true
}

// first and last are the corners between which it lies, be it an area or not.
func first(a api.Area) api.Cell { return api.Cell{Sheet: a.Sheet, Row: a.Top, Col: a.Left} }
func last(a api.Area) api.Cell  { return api.Cell{Sheet: a.Sheet, Row: a.Bottom, Col: a.Right} }

func width(a api.Area) int { return a.Right - a.Left + 1 }

// numbered is the cell number k of an area that has so many.
func numbered(a api.Area, k int) api.Cell {
	return api.Cell{Sheet: a.Sheet, Row: a.Top + k/width(a), Col: a.Left + k%width(a)}
}
