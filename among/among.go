// Package among: cells that stand in their order, and which of them areas have: what lies beside an area is leapt over, be it ever so much.
package among

import (
	"iter"
	"slices"

	"whittle/api"
	"whittle/inside"
	"whittle/order"
	"whittle/place"
)

// Cells are some cells, each once, in their order.
type Cells []api.Cell

// All are the cells that are told of so many sheets, those of each in their order.
func All(sheets int, of func(sheet int) []api.Cell) Cells {
	var all Cells
	for sheet := range sheets {
		all = append(all, of(sheet)...)
	}
	return all
}

// In are those that an area has, each behind its number in the area. What lies beside the area, and what of it is none of them, is leapt over.
func (cs Cells) In(a api.Area) iter.Seq2[int, api.Cell] {
	first := api.Cell{Sheet: a.Sheet, Row: a.Top, Col: a.Left}
	last := api.Cell{Sheet: a.Sheet, Row: a.Bottom, Col: a.Right}
	return func(yield func(int, api.Cell) bool) {
		left := cs.since(first)
		for len(left) > 0 && !place.Before(last, left[0]) {
			k, has := place.Index(a, left[0])
			if !has {
				left = left.since(entry(a, left[0]))
				continue
			}
			if !yield(k, left[0]) {
				return
			}
			left = left[1:]
		}
	}
}

// First is the first one that lies in one of the areas; false, if none does.
func (cs Cells) First(areas ...api.Area) (api.Cell, bool) {
	first, some := api.Cell{}, false
	for _, a := range areas {
		for _, c := range cs.In(a) {
			if !some || place.Before(c, first) {
				first, some = c, true
			}
			break
		}
	}
	return first, some
}

// Count is how many of them lie in some of the areas.
func (cs Cells) Count(areas ...api.Area) int {
	n := 0
	for i, a := range areas {
		for _, c := range cs.In(a) {
			if !inside.Any(areas[:i], c) {
				n++
			}
		}
	}
	return n
}

// Has: is a cell one of them?
func (cs Cells) Has(c api.Cell) bool {
	_, has := slices.BinarySearchFunc(cs, c, order.Cells)
	return has
}

// since are those from a cell on.
func (cs Cells) since(c api.Cell) Cells {
	at, _ := slices.BinarySearchFunc(cs, c, order.Cells)
	return cs[at:]
}

// entry is where the row of a cell beside an area comes into it, or, if that lies ahead of the cell, the next row.
func entry(a api.Area, c api.Cell) api.Cell {
	if c.Col > a.Right {
		c.Row++
	}
	c.Col = a.Left
	return c
}
