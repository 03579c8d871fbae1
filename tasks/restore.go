package tasks

import (
	"whittle/api"
	"whittle/flights"
	"whittle/machine"
	"whittle/marks"
	"whittle/value"
)

// Restore is the tasks of a state.
func Restore(s api.State) (*Tasks, api.Errno) {
	m, why := marks.Restore(s)
	if why != api.OK {
		return nil, why
	}
	t := over(m)
	if !t.tell(s.Cells) || !t.look(s.Views) || !t.fly(s.Frames) {
		return nil, api.ErrState
	}
	return t, api.OK
}

// tell takes in what a state's cells tell; false, if one of them can't tell that.
func (t *Tasks) tell(cells []api.Held) bool {
	for _, held := range cells {
		if !value.Right(held.V) {
			return false
		}
		if only, is := t.mustTell(held); is && held.V != only {
			return false
		}
		t.told[held.Cell] = held.V
	}
	return true
}

// mustTell is the one value that a state's cell can tell; false, if it can tell any.
func (t *Tasks) mustTell(held api.Held) (api.Value, bool) {
	switch c := held.Cell; {
	case t.Kind(c) == api.Constant:
		return t.Constant(c), true
	case t.Cyclic(c):
		return value.Fault(api.FaultCircle), true
	case held.Stale && !held.Ever:
		return value.Blank(), true
	}
	return api.Value{}, false
}

// look lays a state's viewports; false, if they are not one a task, or can't be a task's.
func (t *Tasks) look(views [][]api.Area) bool {
	if len(views) != len(t.views) {
		return false
	}
	for task, areas := range views {
		if t.See(task, areas...) != api.OK {
			return false
		}
	}
	return true
}

// fly takes in a state's frames; false, if they are not one a task, or can't be a task's.
func (t *Tasks) fly(frames []api.Flight) bool {
	if len(frames) != len(t.frames) {
		return false
	}
	for task, flight := range frames {
		right := flights.Off(flight)
		if flight.On {
			right = t.goOn(task, flight)
		}
		if !right {
			return false
		}
	}
	return true
}

// goOn goes on with a task's flight; false, if it can't be parked so.
func (t *Tasks) goOn(task int, flight api.Flight) bool {
	c := flight.Cell
	if c.Sheet != task || !t.Ready(c) || flight.Frame.Steps == 0 || flight.Frame.Done {
		return false
	}
	run, why := machine.Back(t.Code(c), flight.Frame)
	if why != api.OK {
		return false
	}
	t.frames[task] = &frame{Frame: run, cell: c}
	return true
}
