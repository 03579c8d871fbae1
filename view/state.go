package view

import (
	"whittle/api"
	"whittle/tasks"
)

// State is all of it as plain data.
func (v *View) State() api.State {
	s := api.State{Sheets: v.Sheets(), Version: v.Version()}
	for task := range s.Sheets {
		for _, c := range v.Cells(task) {
			s.Cells = append(s.Cells, v.held(c))
		}
		s.Views = append(s.Views, v.Areas(task))
		s.Frames = append(s.Frames, v.Flight(task))
	}
	return s
}

// held is a cell's part of the state.
func (v *View) held(c api.Cell) api.Held {
	seen := v.tell(c)
	return api.Held{Cell: c, Text: v.Text(c), Stale: !seen.Fresh, V: seen.V, Ever: seen.Ever, Version: seen.Version}
}

// Restore is the view of a state.
func Restore(s api.State) (*View, api.Errno) {
	t, why := tasks.Restore(s)
	if why != api.OK {
		return nil, why
	}
	v := over(t)
	for _, held := range s.Cells {
		if !mayTell(held, s.Version) {
			return nil, api.ErrState
		}
		if held.Stale && held.Ever {
			v.until[held.Cell] = held.Version
		}
	}
	return v, api.OK
}

// mayTell says whether a cell can tell this under a version. (That a stale one tells Blank, if it was never fresh with contents, the tasks have seen to.)
func mayTell(held api.Held, version int) bool {
	switch {
	case !held.Stale:
		return held.Ever && held.Version == version
	case held.Ever:
		return held.Version >= 0 && held.Version < version
	}
	return held.Version == 0
}
