package plain

import (
	"iter"
	"slices"

	"whittle/api"
	"whittle/order"
	"whittle/place"
)

// filled are cells with contents, in their order.
type filled []api.Cell

// in are those of them that an area has, each behind its number in the area. What lies beside the area, and what of it is empty, is leapt over, be it ever so much.
func (f filled) in(a api.Area) iter.Seq2[int, api.Cell] {
	first := api.Cell{Sheet: a.Sheet, Row: a.Top, Col: a.Left}
	last := api.Cell{Sheet: a.Sheet, Row: a.Bottom, Col: a.Right}
	return func(yield func(int, api.Cell) bool) {
		left := f.since(first)
		for len(left) > 0 && !place.Before(last, left[0]) {
			k, has := place.Index(a, left[0])
			if !has {
				left = left.since(entry(a, left[0]))
				continue
			}
			if !yield(k, left[0]) {
				return
			}
			left = left[1:]
		}
	}
}

// since are those from a cell on.
func (f filled) since(c api.Cell) filled {
	at, _ := slices.BinarySearchFunc(f, c, order.Cells)
	return f[at:]
}

// entry is where the row of a cell beside an area comes into it, or, if that lies ahead of the cell, the next row.
func entry(a api.Area, c api.Cell) api.Cell {
	if c.Col > a.Right {
		c.Row++
	}
	c.Col = a.Left
	return c
}
