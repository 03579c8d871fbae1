package tasks

import (
	"whittle/api"
	"whittle/machine"
	"whittle/steps"
)

// Tick does steps of a task, as many as there are to do, but no more than the budget: how many.
func (t *Tasks) Tick(task, budget int) (int, api.Errno) {
	if why := t.refuses(task, budget); why != api.OK {
		return 0, why
	}
	n := 0
	for n < budget {
		if _, did := t.step(task); !did {
			break
		}
		n++
	}
	return n, api.OK
}

// Trace does what Tick does, and tells it step by step.
func (t *Tasks) Trace(task, budget int) ([]api.Event, api.Errno) {
	if why := t.refuses(task, budget); why != api.OK {
		return nil, why
	}
	if budget > api.MaxTrace {
		return nil, api.ErrBudget
	}
	var events []api.Event
	for len(events) < budget {
		event, did := t.step(task)
		if !did {
			break
		}
		events = append(events, event)
	}
	return events, api.OK
}

// refuses is why a task may not be ticked with this budget; OK, if it may.
func (t *Tasks) refuses(task, budget int) api.Errno {
	switch {
	case !t.is(task):
		return api.ErrTask
	case budget < 0:
		return api.ErrBudget
	}
	return api.OK
}

// step does a step of a task, and tells it; false, if the task has nothing to do.
func (t *Tasks) step(task int) (event api.Event, did bool) {
	f := t.under(task)
	if f == nil {
		return api.Event{}, false
	}
	event, did = steps.Next(f.Frame, f.cell, t.Value)
	if event.Wrote {
		t.frames[task] = nil
		t.write(f.cell, event.V)
	}
	return event, did
}

// under is the frame that a task has under way, or else one that begins; nil, if there is nothing to begin.
func (t *Tasks) under(task int) *frame {
	if t.frames[task] == nil {
		t.begin(task)
	}
	return t.frames[task]
}

// begin begins a frame of the task, if a cell is ready.
func (t *Tasks) begin(task int) {
	c, ok := t.first(task)
	if !ok {
		return
	}
	// A ready cell has no code only if its book was edited past its marks, behind which calls must end (R7).
	if run, why := machine.New(t.Code(c)); why == api.OK {
		t.frames[task] = &frame{Frame: run, cell: c}
	}
}

// write makes a cell fresh, with the value that its frame has come to.
func (t *Tasks) write(c api.Cell, v api.Value) {
	t.catchUp()
	t.told[c] = v
	t.Done(c)
	t.queueUp(append(t.Users(c), c)...)
}
