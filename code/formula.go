package code

import (
	"slices"

	"whittle/api"
	"whittle/funcs"
	"whittle/heights"
	"whittle/place"
)

// part is a node with its parts.
type part struct {
	api.Node
	parts []part
}

// grow is the part that a row of a tree begins with, and the row behind it.
func grow(l []api.Node) (part, []api.Node) {
	p := part{Node: l[0]}
	l = l[1:]
	for range count(p.Node) {
		inner, rest := grow(l)
		p.parts, l = append(p.parts, inner), rest
	}
	return p, l
}

// count is how many parts a node of a tree has.
func count(n api.Node) int {
	switch n.Kind {
	case api.NodeUn:
		return 1
	case api.NodeBin:
		return 2
	}
	return n.Args
}

func (p part) isArea() bool { return p.Kind == api.NodeArea }

// site is where a formula stands: the number of its own sheet, and the names of all.
type site struct {
	own   int
	names []string
}

// sheet is the number of a sheet, as a formula names it; below 0, if there is none.
func (s site) sheet(name string) int {
	if name == "" {
		return s.own
	}
	return slices.Index(s.names, name)
}

func (s site) cell(r api.Ref) api.Cell {
	return api.Cell{Sheet: s.sheet(r.Sheet), Row: r.Row, Col: r.Col}
}

func (s site) area(n api.Node) api.Area {
	a := rectangle(n)
	a.Sheet = s.sheet(n.A.Sheet)
	return a
}

// rectangle is what lies between an area's corners, on no sheet: shapes are asked for ahead of sheets.
func rectangle(n api.Node) api.Area {
	a, _ := place.Hull(api.Cell{Row: n.A.Row, Col: n.A.Col}, api.Cell{Row: n.B.Row, Col: n.B.Col})
	return a
}

func rows(a api.Area) int { return a.Bottom - a.Top + 1 }
func cols(a api.Area) int { return a.Right - a.Left + 1 }

func sameShape(a, b api.Area) bool { return rows(a) == rows(b) && cols(a) == cols(b) }

// refuses is the first error of a part and of those in it, in the row's order.
func (s site) refuses(p part) api.Errno {
	why := s.refusesNode(p)
	for i := 0; i < len(p.parts) && why == api.OK; i++ {
		why = s.refuses(p.parts[i])
	}
	return why
}

// refusesNode is the first error of a part by itself.
func (s site) refusesNode(p part) api.Errno {
	switch p.Kind {
	case api.NodeCell, api.NodeArea:
		if s.sheet(p.A.Sheet) < 0 {
			return api.ErrSheet
		}
	case api.NodeUn, api.NodeBin:
		if slices.ContainsFunc(p.parts, part.isArea) {
			return api.ErrArea
		}
	case api.NodeCall:
		return refusesCall(p)
	}
	return api.OK
}

func refusesCall(p part) api.Errno {
	f, known := funcs.Of(p.Name)
	switch {
	case !known:
		return api.ErrName
	case p.Args < f.Least || p.Args > f.Most:
		return api.ErrArity
	case !takes(f, p.parts):
		return api.ErrArea
	case !shaped(f.Id, p.parts):
		return api.ErrShape
	}
	return api.OK
}

// takes: do areas stand just where a function takes them?
func takes(f api.Sig, args []part) bool {
	for i, arg := range args {
		letter := f.Params[min(i, len(f.Params)-1)]
		if letter == 'a' && !arg.isArea() || letter == 'v' && arg.isArea() {
			return false
		}
	}
	return true
}

// shaped: are two areas of which cells are paired of one shape?
func shaped(id int, args []part) bool {
	if !heights.Pairs(id) {
		return true
	}
	areas, _ := apart(args)
	return sameShape(rectangle(areas[0].Node), rectangle(areas[len(areas)-1].Node))
}

// apart are the arguments that are areas, and all others.
func apart(args []part) (areas, values []part) {
	for _, arg := range args {
		if arg.isArea() {
			areas = append(areas, arg)
		} else {
			values = append(values, arg)
		}
	}
	return areas, values
}
