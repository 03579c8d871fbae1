// Package heights: what stands at each instruction of a list when it is come to (DOC.md, 8.2). Whether a list is a code hangs on it, and whether a run of a code can stand somewhere.
package heights

import (
	"slices"

	"whittle/api"
)

// Heights are those of a list that has some.
type Heights struct {
	marks []mark // one an instruction
	folds foldRows
}

// height is what stands at an instruction when it is come to.
type height struct {
	values int
	folds  int // the number of a row of folds
}

// mark is the height at which an instruction is come to, if one ahead of it hands it any.
type mark struct {
	height
	come bool
}

// Of are the heights of a list; false, if it can't be given any. Of each instruction Onward must tell places behind it, in the list, alone.
func Of(l []api.Ins) (*Heights, bool) {
	h := &Heights{make([]mark, len(l)), foldRows{numbers: map[foldRow]int{}}}
	for at, ins := range l {
		// All that hand on to it stand ahead of it, and have done so.
		if at > 0 && !h.marks[at].come {
			return nil, false
		}
		ahead := h.marks[at].height
		behind, ok := h.folds.change(ins, ahead)
		changed, kept := Onward(ins, at)
		if !ok || !h.hand(behind, changed) || !h.hand(ahead, kept) {
			return nil, false
		}
	}
	return h, true
}

// At is what stands at a place of the list: how many values, and the functions of the folds, from below.
func (h *Heights) At(place int) (values int, folds []int) {
	for row := h.marks[place].folds; row > 0; {
		top, _ := h.folds.top(row)
		folds = append(folds, top.last)
		row = top.ahead
	}
	slices.Reverse(folds)
	return h.marks[place].values, folds
}

// hand hands a height on to places; false, if one of them is come to at another height.
func (h *Heights) hand(on height, places []int) bool {
	for _, place := range places {
		if h.marks[place].come && h.marks[place].height != on {
			return false
		}
		h.marks[place] = mark{on, true}
	}
	return true
}

// Onward are the places that an instruction hands on to: those to which it hands what it has changed, and those to which it hands what stood there ahead of it. (They may be the instruction's own list.)
func Onward(ins api.Ins, at int) (changed, kept []int) {
	switch ins.Op {
	case api.InsBranch:
		return []int{at + 1, ins.A}, []int{ins.B}
	case api.InsJump:
		return nil, []int{ins.A}
	case api.InsGuard:
		return []int{at + 1}, []int{ins.A}
	case api.InsChoose:
		return ins.To, []int{ins.B}
	case api.InsStore:
		return nil, nil
	}
	return []int{at + 1}, nil
}

// Pairs: does a search go through two areas at once?
func Pairs(id int) bool {
	return id == api.FnSumIf || id == api.FnLookup || id == api.FnSumProduct
}

// swaps is how many values an instruction takes off, and how many it puts there.
func swaps(ins api.Ins) (off, on int) {
	switch ins.Op {
	case api.InsPush, api.InsLoad, api.InsClose:
		return 0, 1
	case api.InsUn:
		return 1, 1
	case api.InsBin:
		return 2, 1
	case api.InsCall, api.InsPick:
		return ins.B, 1
	case api.InsFeed, api.InsBranch, api.InsGuard, api.InsChoose, api.InsStore:
		return 1, 0
	}
	return 0, 0
}

// change is the height behind an instruction; false, if the instruction can't stand at that height.
func (r *foldRows) change(ins api.Ins, h height) (height, bool) {
	off, on := swaps(ins)
	folds, ok := r.behind(ins, h.folds)
	if !ok || h.values < off || ins.Op == api.InsStore && h.values > off {
		return height{}, false
	}
	return height{h.values - off + on, folds}, true
}
