// Package steps: a run's steps, each told as an event: tasks does the steps of its frames so, witness holds events against them.
package steps

import (
	"whittle/api"
	"whittle/machine"
)

// Next does a run's next step, and tells it as an event of the cell whose run it is; read is what a cell that it wants tells. False, if the run has ended.
func Next(run *machine.Frame, of api.Cell, read func(api.Cell) api.Value) (event api.Event, did bool) {
	event.Cell = of
	event.Read, event.Reads = run.Wants()
	if event.Reads {
		event.V = read(event.Read)
	}
	if !run.Step(event.V) {
		return api.Event{}, false
	}
	if result, done := run.Result(); done {
		event.V, event.Wrote = result, true
	}
	return event, true
}
