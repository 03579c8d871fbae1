// Package inside: what lies in an area: its cells, and of what is kept by cells just those; whether a cell lies in one of several.
package inside

import (
	"iter"
	"slices"

	"whittle/api"
	"whittle/place"
)

// Cells are an area's, in their order.
func Cells(a api.Area) iter.Seq[api.Cell] {
	return func(yield func(api.Cell) bool) {
		cursor := place.Over(a)
		for c, ok := cursor.Next(); ok; c, ok = cursor.Next() {
			if !yield(c) {
				return
			}
		}
	}
}

// Of are what a map keeps by the cells of an area, in whatever order. Gone through are the area's cells or the whole map, whichever are fewer: areas may be huge.
func Of[V any](kept map[api.Cell]V, a api.Area) iter.Seq2[api.Cell, V] {
	return func(yield func(api.Cell, V) bool) {
		if place.Size(a) > len(kept) {
			for c, v := range kept {
				if place.Has(a, c) && !yield(c, v) {
					return
				}
			}
			return
		}
		for c := range Cells(a) {
			if v, is := kept[c]; is && !yield(c, v) {
				return
			}
		}
	}
}

// Any says whether one of the areas has a cell.
func Any(areas []api.Area, c api.Cell) bool {
	return slices.ContainsFunc(areas, func(a api.Area) bool { return place.Has(a, c) })
}
