package parts

import (
	"slices"

	"whittle/api"
	"whittle/place"
)

// Site is where a formula stands: the number of its own sheet, and the names of all that count.
type Site struct {
	own   int
	names []string
}

// At is the site of a cell among sheets of these names, which it keeps: it is for one call.
func At(home api.Cell, sheets ...string) Site {
	return Site{home.Sheet, sheets[:min(len(sheets), api.MaxSheets)]}
}

// Sheet is the number of a sheet, as a formula names it; below 0, if there is none.
func (s Site) Sheet(name string) int {
	if name == "" {
		return s.own
	}
	return slices.Index(s.names, name)
}

// Cell is the cell that a formula names, on a sheet that there is.
func (s Site) Cell(r api.Ref) api.Cell {
	return api.Cell{Sheet: s.Sheet(r.Sheet), Row: r.Row, Col: r.Col}
}

// Area is the area that a node names, on a sheet that there is.
func (s Site) Area(n api.Node) api.Area {
	a := Rectangle(n)
	a.Sheet = s.Sheet(n.A.Sheet)
	return a
}

// Rectangle is what lies between an area's corners, on no sheet: what hangs on its shape alone may be asked ahead of its sheet.
func Rectangle(n api.Node) api.Area {
	a, _ := place.Hull(api.Cell{Row: n.A.Row, Col: n.A.Col}, api.Cell{Row: n.B.Row, Col: n.B.Col})
	return a
}

// Rows and Cols are how many an area has.
func Rows(a api.Area) int { return a.Bottom - a.Top + 1 }
func Cols(a api.Area) int { return a.Right - a.Left + 1 }
