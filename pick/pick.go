// Package pick: which cell of an area INDEX picks (DOC.md, 9.2), and what it comes to where it picks none (9.3). Runs hang on it, and what is worked out ahead of them or without them.
package pick

import (
	"slices"

	"whittle/api"
	"whittle/place"
	"whittle/value"
)

// Cell is the cell of an area that one value tells by its number, or two by its row and its column, all from 1 on; false, if they tell none.
func Cell(a api.Area, by ...api.Value) (api.Cell, bool) {
	if slices.ContainsFunc(by, isUncountable) {
		return api.Cell{}, false
	}
	if len(by) == 1 {
		return place.At(a, by[0].Num.N-1)
	}
	c := api.Cell{Sheet: a.Sheet, Row: a.Top + by[0].Num.N - 1, Col: a.Left + by[1].Num.N - 1}
	if !place.Has(a, c) {
		return api.Cell{}, false
	}
	return c, true
}

// isUncountable: is it no whole Number? What only reads as a number tells no cell.
func isUncountable(v api.Value) bool { return v.Kind != api.Number || v.Num.D != 1 }

// None is what a pick by values that tell no cell comes to.
func None(by ...api.Value) api.Value {
	bad := slices.IndexFunc(by, isFault)
	if bad < 0 {
		return value.Fault(api.FaultRef)
	}
	return by[bad]
}

func isFault(v api.Value) bool { return v.Kind == api.Fault }
