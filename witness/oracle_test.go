package witness

import (
	"slices"

	"whittle/api"
	"whittle/code"
	"whittle/machine"
	"whittle/tasks"
	"whittle/value"
)

// The chapter's words once more, for the tests alone.

// chainOf is what 22.1 says of a stale cell: who uses whom is asked of the cells that are used.
func chainOf(x *tasks.Tasks, c api.Cell) []api.Cell {
	chain := []api.Cell{c}
	for {
		last := chain[len(chain)-1]
		all := stales(x)
		i := slices.IndexFunc(all, func(s api.Cell) bool { return slices.Contains(x.Users(s), last) })
		if i < 0 {
			return chain
		}
		chain = append(chain, all[i])
	}
}

// stales are all stale cells, in their order.
func stales(x *tasks.Tasks) []api.Cell {
	var l []api.Cell
	for sheet := range x.Sheets() {
		for _, c := range x.Cells(sheet) {
			if x.Stale(c) {
				l = append(l, c)
			}
		}
	}
	return l
}

// replayOf is what 22.2 says: a run gone back to, from plain data, at each step.
func replayOf(l []api.Ins, events []api.Event) (api.Value, bool) {
	if code.Check(l) != api.OK || len(events) == 0 {
		return api.Value{}, false
	}
	s := api.Frame{}
	for i, e := range events {
		run, why := machine.Back(l, s)
		if why != api.OK || run.Done() {
			return api.Value{}, false
		}
		read, reads := run.Wants()
		run.Step(e.V)
		result, done := run.Result()
		want := api.Event{Cell: events[0].Cell, Reads: reads, Read: read, V: result, Wrote: done}
		if reads {
			want.V = e.V
			if !value.Right(e.V) {
				return api.Value{}, false
			}
		}
		if e != want || done != (i == len(events)-1) {
			return api.Value{}, false
		}
		s = run.State()
	}
	return events[len(events)-1].V, true
}
