package graph

import (
	"iter"
	"maps"
	"slices"

	"whittle/api"
	"whittle/inside"
	"whittle/order"
	"whittle/place"
)

// few is how many cells a small area has at most.
const few = 16

// users are the cells that use others, by what they use. Small areas are taken cell by cell, so that the users of a cell are looked up; the great ones must be gone through.
type users struct {
	near sets[api.Cell, api.Cell]
	wide sets[api.Area, api.Cell]
}

func newUsers() users {
	return users{near: sets[api.Cell, api.Cell]{}, wide: sets[api.Area, api.Cell]{}}
}

// add takes in a cell that uses these areas.
func (u users) add(c api.Cell, uses []api.Area) {
	cells, great := parted(uses)
	u.near.add(c, cells...)
	u.wide.add(c, great...)
}

// drop lets go of a cell that uses these areas.
func (u users) drop(c api.Cell, uses []api.Area) {
	cells, great := parted(uses)
	u.near.drop(c, cells...)
	u.wide.drop(c, great...)
}

// of are the users of a cell, in their order.
func (u users) of(c api.Cell) []api.Cell {
	list := slices.Collect(maps.Keys(u.near[c]))
	for a, by := range u.wide {
		if place.Has(a, c) {
			list = slices.AppendSeq(list, maps.Keys(by))
		}
	}
	slices.SortFunc(list, order.Cells)
	return slices.Compact(list)
}

// parted are the cells of the small areas, and the great ones.
func parted(areas []api.Area) (cells []api.Cell, great []api.Area) {
	for _, a := range areas {
		if place.Size(a) > few {
			great = append(great, a)
			continue
		}
		cells = slices.AppendSeq(cells, inside.Cells(a))
	}
	return cells, great
}

// flood goes from cells to their users, and finds each once.
type flood struct {
	users
	found set[api.Cell]
	left  []api.Area // the great ones whose users are not found yet
}

func newFlood(u users) *flood {
	return &flood{users: u, found: set[api.Cell]{}, left: slices.Collect(maps.Keys(u.wide))}
}

// from are the users of a cell that were not found ahead, in their order.
func (f *flood) from(c api.Cell) []api.Cell {
	next := f.find(nil, f.near[c])
	f.left = slices.DeleteFunc(f.left, func(a api.Area) bool {
		has := place.Has(a, c)
		if has {
			next = f.find(next, f.wide[a])
		}
		return has
	})
	slices.SortFunc(next, order.Cells)
	return next
}

// find lays those that were not found ahead behind a list.
func (f *flood) find(list []api.Cell, by set[api.Cell]) []api.Cell {
	for user := range by {
		if f.found.add(user) {
			list = append(list, user)
		}
	}
	return list
}

// spread goes on from the cells to all that reach them, nearer ones ahead: it tells each that is found behind the cell from which it was.
func (f *flood) spread(cs ...api.Cell) iter.Seq2[api.Cell, api.Cell] {
	return func(yield func(api.Cell, api.Cell) bool) {
		row := slices.Clone(cs)
		for i := 0; i < len(row); i++ {
			next := f.from(row[i])
			for _, user := range next {
				if !yield(row[i], user) {
					return
				}
			}
			row = append(row, next...)
		}
	}
}
