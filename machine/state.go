package machine

import (
	"slices"

	"whittle/api"
	"whittle/funcs"
	"whittle/heights"
	"whittle/place"
	"whittle/value"
)

// State is where a run stands, as plain data.
func (f *Frame) State() api.Frame {
	s := api.Frame{At: f.at, Steps: f.steps, Stack: slices.Clone(f.values), Scans: f.Passed(), Done: f.done}
	for _, fold := range f.folds {
		s.Accs = append(s.Accs, fold.State())
	}
	return s
}

// Back goes on with a run.
func Back(l []api.Ins, s api.Frame) (*Frame, api.Errno) {
	f, why := New(l)
	if why != api.OK {
		return nil, why
	}
	if !stands(f.list, s) {
		return nil, api.ErrState
	}
	f.come(s.At)
	f.scan.Skip(s.Scans)
	f.values, f.steps, f.done = slices.Clone(s.Stack), s.Steps, s.Done
	for _, a := range s.Accs {
		fold, why := funcs.Back(a)
		if why != api.OK {
			return nil, api.ErrState
		}
		f.folds = append(f.folds, fold)
	}
	return f, api.OK
}

// stands: can a run of a code stand so? (What a fold may be by itself is not asked.)
func stands(l []api.Ins, s api.Frame) bool {
	if s.At < 0 || s.At >= len(l) || s.Steps < 0 || s.Steps > api.MaxNum {
		return false
	}
	if s.Done && l[s.At].Op != api.InsStore {
		return false
	}
	return reaches(l, s) && scanStands(l[s.At], s)
}

// reaches: has it just the values, and the folds, that stand at its place?
func reaches(l []api.Ins, s api.Frame) bool {
	all, _ := heights.Of(l)
	values, folds := all.At(s.At)
	wrong := func(v api.Value) bool { return !value.Right(v) }
	of := func(a api.Acc, fn int) bool { return a.Fn == fn }
	return len(s.Stack) == values && !slices.ContainsFunc(s.Stack, wrong) && slices.EqualFunc(s.Accs, folds, of)
}

// scanStands: do the folds' wants, and the cells that were passed, go with the instruction? The folds are those that stand there.
func scanStands(ins api.Ins, s api.Frame) bool {
	var top api.Acc
	for _, a := range s.Accs {
		if top.Wants {
			return false // it is not the top one
		}
		top = a
	}
	least, most := 0, 0
	switch {
	case top.Wants && ins.Op != api.InsScan2:
		return false
	case top.Wants:
		least, most = 1, place.Size(ins.Area)
	case scans(ins) && !top.Full:
		most = place.Size(ins.Area) - 1
	}
	return s.Scans >= least && s.Scans <= most
}
