package tasks

import (
	"slices"

	"whittle/api"
	"whittle/edits"
	"whittle/value"
)

// Edit is the marks', and aborts the frames that it makes worthless.
func (t *Tasks) Edit(changes ...api.Change) api.Refusal {
	t.catchUp()
	why := t.Marks.Edit(changes...)
	if why.Code != api.OK {
		return why
	}
	named := edits.Cells(changes...)
	// What reaches none of the edit's cells tells what it told, is ready if it was, and on the level on which it was.
	touched := slices.Concat(named, t.Reach(named...))
	for _, c := range touched {
		t.learn(c)
	}
	t.queueUp(touched...)
	t.aborted = t.abort(touched)
	return why
}

// learn takes in what a cell that was touched by an edit tells from then on; a stale one goes on telling what it told.
func (t *Tasks) learn(c api.Cell) {
	if t.Stale(c) {
		return
	}
	switch t.Kind(c) {
	case api.Empty:
		delete(t.told, c)
	case api.Constant:
		t.told[c] = t.Constant(c)
	case api.Formula:
		// It was touched, and yet it is fresh: it is cyclic.
		t.told[c] = value.Fault(api.FaultCircle)
	}
}

// abort takes the frames of these cells from their tasks, and tells whose they were.
func (t *Tasks) abort(cells []api.Cell) []api.Cell {
	var aborted []api.Cell
	for task, f := range t.frames {
		if f != nil && slices.Contains(cells, f.cell) {
			aborted = append(aborted, f.cell)
			t.frames[task] = nil
		}
	}
	return aborted
}
