package view

import (
	"whittle/api"
	"whittle/inside"
	"whittle/place"
)

// Read is what a cell tells.
func (v *View) Read(c api.Cell) (api.Seen, api.Errno) {
	if !place.Right(c) || !v.is(c.Sheet) {
		return api.Seen{}, api.ErrCell
	}
	return v.tell(c), api.OK
}

// is says whether there is such a sheet, and so such a task.
func (v *View) is(sheet int) bool { return sheet >= 0 && sheet < len(v.Sheets()) }

// tell is what a cell of the book tells.
func (v *View) tell(c api.Cell) api.Seen {
	if v.Stale(c) {
		version, ever := v.until[c]
		return api.Seen{V: v.Value(c), Ever: ever, Version: version}
	}
	return api.Seen{V: v.Value(c), Fresh: true, Ever: v.Kind(c) != api.Empty, Version: v.Version()}
}

// Window is what a task's viewport shows: the cells with contents that it sees, in their order.
func (v *View) Window(task int) ([]api.Shown, api.Errno) {
	if !v.is(task) {
		return nil, api.ErrTask
	}
	var shown []api.Shown
	areas := v.Areas(task)
	for _, c := range v.Cells(task) {
		if inside.Any(areas, c) {
			shown = append(shown, api.Shown{Cell: c, Seen: v.tell(c)})
		}
	}
	return shown, api.OK
}

// Idle: is nothing stale?
func (v *View) Idle() bool { return v.Count() == 0 }
