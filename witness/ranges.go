package witness

import (
	"iter"

	"whittle/among"
	"whittle/api"
	"whittle/tasks"
)

// links are a stale cell and, as long as the last one uses a stale cell, the first of these.
func links(t *tasks.Tasks, c api.Cell) iter.Seq[api.Cell] {
	return func(yield func(api.Cell) bool) {
		stale := among.All(len(t.Sheets()), t.StaleOf)
		for link, some := c, true; some; link, some = stale.First(t.Uses(link)...) {
			if !yield(link) {
				return
			}
		}
	}
}

// pieces are events in pieces: one ends behind an event that wrote, and ahead of one of another cell.
func pieces(events []api.Event) iter.Seq[[]api.Event] {
	return func(yield func([]api.Event) bool) {
		from := 0
		for i, event := range events {
			next := i + 1
			if !event.Wrote && next < len(events) && events[next].Cell == event.Cell {
				continue
			}
			if !yield(events[from:next]) {
				return
			}
			from = next
		}
	}
}
