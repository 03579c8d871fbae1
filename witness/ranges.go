package witness

import (
	"iter"
	"slices"

	"whittle/api"
	"whittle/order"
	"whittle/place"
	"whittle/tasks"
)

// links are a stale cell and, as long as the last one uses a stale cell, the first of these.
func links(t *tasks.Tasks, c api.Cell) iter.Seq[api.Cell] {
	return func(yield func(api.Cell) bool) {
		stale := allStale(t)
		for link, some := c, true; some; link, some = firstIn(stale, t.Uses(link)...) {
			if !yield(link) {
				return
			}
		}
	}
}

// allStale are the stale cells of all sheets, in their order.
func allStale(t *tasks.Tasks) []api.Cell {
	var stale []api.Cell
	for sheet := range t.Sheets() {
		stale = append(stale, t.StaleOf(sheet)...)
	}
	return stale
}

// firstIn is the first of some cells, which stand in their order, that lies in one of the areas; false, if none does.
func firstIn(cells []api.Cell, areas ...api.Area) (api.Cell, bool) {
	first, some := api.Cell{}, false
	for _, a := range areas {
		from, to := near(cells, a)
		in := func(c api.Cell) bool { return place.Has(a, c) }
		if i := slices.IndexFunc(cells[from:to], in); i >= 0 {
			first, some = cells[from+i], true
			// Of the areas that follow just what stands ahead of it is asked for.
			cells = cells[:from+i]
		}
	}
	return first, some
}

// near is where those of some cells, which stand in their order, begin and end that stand from an area's first cell to its last.
func near(cells []api.Cell, a api.Area) (from, to int) {
	from, _ = slices.BinarySearchFunc(cells, api.Cell{Sheet: a.Sheet, Row: a.Top, Col: a.Left}, order.Cells)
	to, has := slices.BinarySearchFunc(cells, api.Cell{Sheet: a.Sheet, Row: a.Bottom, Col: a.Right}, order.Cells)
	if has {
		to++
	}
	return from, to
}

// pieces are events in pieces: one ends behind an event that wrote, and ahead of one of another cell.
func pieces(events []api.Event) iter.Seq[[]api.Event] {
	return func(yield func([]api.Event) bool) {
		from := 0
		for i, event := range events {
			next := i + 1
			if !event.Wrote && next < len(events) && events[next].Cell == event.Cell {
				continue
			}
			if !yield(events[from:next]) {
				return
			}
			from = next
		}
	}
}
