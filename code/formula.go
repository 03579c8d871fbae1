package code

import (
	"slices"

	"whittle/api"
	"whittle/funcs"
	"whittle/heights"
	"whittle/parts"
)

func sameShape(a, b api.Area) bool {
	return parts.Rows(a) == parts.Rows(b) && parts.Cols(a) == parts.Cols(b)
}

// refuses is the first error of a part and of those in it, in the row's order.
func refuses(p parts.Part, s parts.Site) api.Errno {
	why := refusesNode(p, s)
	for i := 0; i < len(p.Parts) && why == api.OK; i++ {
		why = refuses(p.Parts[i], s)
	}
	return why
}

// refusesNode is the first error of a part by itself.
func refusesNode(p parts.Part, s parts.Site) api.Errno {
	switch p.Kind {
	case api.NodeCell, api.NodeArea:
		if s.Sheet(p.A.Sheet) < 0 {
			return api.ErrSheet
		}
	case api.NodeUn, api.NodeBin:
		if slices.ContainsFunc(p.Parts, parts.Part.IsArea) {
			return api.ErrArea
		}
	case api.NodeCall:
		return refusesCall(p)
	}
	return api.OK
}

func refusesCall(p parts.Part) api.Errno {
	f, known := funcs.Of(p.Name)
	switch {
	case !known:
		return api.ErrName
	case p.Args < f.Least || p.Args > f.Most:
		return api.ErrArity
	case !takes(f, p.Parts):
		return api.ErrArea
	case !shaped(f.Id, p.Parts):
		return api.ErrShape
	}
	return api.OK
}

// takes: do areas stand just where a function takes them?
func takes(f api.Sig, args []parts.Part) bool {
	for i, arg := range args {
		letter := f.Params[min(i, len(f.Params)-1)]
		if letter == 'a' && !arg.IsArea() || letter == 'v' && arg.IsArea() {
			return false
		}
	}
	return true
}

// shaped: are two areas of which cells are paired of one shape?
func shaped(id int, args []parts.Part) bool {
	if !heights.Pairs(id) {
		return true
	}
	areas, _ := parts.Apart(args)
	return sameShape(parts.Rectangle(areas[0].Node), parts.Rectangle(areas[len(areas)-1].Node))
}
