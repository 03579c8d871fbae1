package plan

import (
	"slices"

	"whittle/among"
	"whittle/api"
	"whittle/machine"
	"whittle/order"
	"whittle/queue"
	"whittle/steps"
	"whittle/view"
)

// trial is ticks that are done beside a view: it asks the view, and turns nothing of it.
type trial struct {
	of     *view.View
	left   among.Cells            // what is still stale
	waits  map[api.Cell]int       // how many of these a cell uses; of those that were asked so far
	told   map[api.Cell]api.Value // what was written
	frames []*frame               // by task; nil, if it has none
	queues []*queue.Queue         // by task: the ready cells of its sheet
}

// frame is a run under way, and the cell for which it is.
type frame struct {
	*machine.Frame
	cell api.Cell
}

// newTrial stands where a view stands.
func newTrial(v *view.View) *trial {
	t := &trial{of: v, left: stale(v), waits: map[api.Cell]int{}, told: map[api.Cell]api.Value{}}
	for task := range v.Sheets() {
		q := queue.New()
		q.See(v.Areas(task)...)
		for _, c := range v.ReadyOf(task) {
			q.Put(c, v.Level(c))
		}
		t.queues = append(t.queues, q)
		t.frames = append(t.frames, t.again(v.Flight(task)))
	}
	return t
}

// again is the frame of a flight once more; nil, if the flight has none.
func (t *trial) again(flight api.Flight) *frame {
	if !flight.On {
		return nil
	}
	// How many steps were done turns nothing of what is still to be done, and may be more than a state may say.
	flight.Frame.Steps = 0
	run, why := machine.Back(t.of.Code(flight.Cell), flight.Frame)
	return under(flight.Cell, run, why)
}

// anew is a frame that a task begins; nil, if no cell is ready.
func (t *trial) anew(task int) *frame {
	c, ok := t.queues[task].First()
	if !ok {
		return nil
	}
	run, why := machine.New(t.of.Code(c))
	return under(c, run, why)
}

// under is a cell's frame with this run; nil, if there is no run. (That is so only where contents were edited past their marks, behind which calls must end: R7.)
func under(c api.Cell, run *machine.Frame, why api.Errno) *frame {
	if why != api.OK {
		return nil
	}
	return &frame{run, c}
}

// tick is what a tick comes to.
func (t *trial) tick(task, budget int) api.Outcome {
	switch {
	case task < 0 || task >= len(t.frames):
		return api.Outcome{Code: api.ErrTask}
	case budget < 0:
		return api.Outcome{Code: api.ErrBudget}
	}
	var outcome api.Outcome
	for outcome.Steps < budget && t.goesOn(task) {
		f := t.frames[task]
		outcome.Steps += t.advance(f, budget-outcome.Steps)
		if v, done := f.Result(); done {
			t.frames[task] = nil
			t.write(f.cell, v)
			outcome.Done = append(outcome.Done, f.cell)
		}
	}
	return outcome
}

// goesOn says whether a task has something to do; behind that it has a frame, if so.
func (t *trial) goesOn(task int) bool {
	if t.frames[task] == nil {
		t.frames[task] = t.anew(task)
	}
	return t.frames[task] != nil
}

// advance does steps of a frame, as many as there are to do, but no more than the budget: how many.
func (t *trial) advance(f *frame, budget int) int {
	for n := range budget {
		if _, did := steps.Next(f.Frame, f.cell, t.value); !did {
			return n
		}
	}
	return budget
}

// value is what a cell tells.
func (t *trial) value(c api.Cell) api.Value {
	if v, wrote := t.told[c]; wrote {
		return v
	}
	return t.of.Value(c)
}

// write makes a cell fresh, with the value that its frame has come to.
func (t *trial) write(c api.Cell, v api.Value) {
	t.told[c] = v
	i, was := slices.BinarySearchFunc(t.left, c, order.Cells)
	if !was {
		// Others than a tick have made it fresh, since Done is promoted: no flag turns.
		return
	}
	t.left = slices.Delete(t.left, i, i+1)
	t.queues[c.Sheet].Drop(c)
	for _, user := range t.of.Users(c) {
		if t.left.Has(user) && t.awaited(user) == 0 {
			t.queues[user.Sheet].Put(user, t.of.Level(user))
		}
	}
}

// awaited is how many stale cells a cell uses, one that it uses having become fresh just now.
func (t *trial) awaited(by api.Cell) int {
	n, known := t.waits[by]
	if known {
		n--
	} else {
		n = t.left.Count(t.of.Uses(by)...)
	}
	t.waits[by] = n
	return n
}
