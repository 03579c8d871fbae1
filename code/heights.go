package code

import "whittle/api"

// height is what stands at an instruction when it is come to.
type height struct {
	values int
	folds  int // the number of a row of folds
}

// foldRows numbers rows of folds: two rows are the same just if their numbers are, however they came about. 0 is the empty row.
type foldRows struct {
	list    []foldRow // the row number k at k - 1
	numbers map[foldRow]int
}

// foldRow is a row with a fold more behind it.
type foldRow struct{ ahead, last int }

// more is a row with a fold behind it.
func (r *foldRows) more(row, id int) int {
	longer := foldRow{row, id}
	n, known := r.numbers[longer]
	if !known {
		r.list = append(r.list, longer)
		n = len(r.list)
		r.numbers[longer] = n
	}
	return n
}

// top is a row apart: its last fold, and what is ahead of that; false, if it is empty.
func (r *foldRows) top(row int) (foldRow, bool) {
	if row == 0 {
		return foldRow{}, false
	}
	return r.list[row-1], true
}

// behind is the row of folds behind an instruction; false, if the instruction needs another one.
func (r *foldRows) behind(ins api.Ins, row int) (int, bool) {
	top, some := r.top(row)
	switch ins.Op {
	case api.InsOpen:
		return r.more(row, ins.A), true
	case api.InsFeed:
		return row, some
	case api.InsScan:
		return row, some && !pairs(top.last)
	case api.InsScan2:
		return row, some && pairs(top.last)
	case api.InsClose:
		return top.ahead, some
	case api.InsStore:
		return row, !some
	}
	return row, true
}

// swaps is how many values an instruction takes off, and how many it puts there.
func swaps(ins api.Ins) (off, on int) {
	switch ins.Op {
	case api.InsPush, api.InsLoad, api.InsClose:
		return 0, 1
	case api.InsUn:
		return 1, 1
	case api.InsBin:
		return 2, 1
	case api.InsCall, api.InsPick:
		return ins.B, 1
	case api.InsFeed, api.InsBranch, api.InsGuard, api.InsChoose, api.InsStore:
		return 1, 0
	}
	return 0, 0
}

// change is the height behind an instruction; false, if the instruction can't stand at that height.
func (r *foldRows) change(ins api.Ins, h height) (height, bool) {
	off, on := swaps(ins)
	folds, ok := r.behind(ins, h.folds)
	if !ok || h.values < off || ins.Op == api.InsStore && h.values > off {
		return height{}, false
	}
	return height{h.values - off + on, folds}, true
}

// mark is the height at which an instruction is come to, if one ahead of it hands it any.
type mark struct {
	height
	come bool
}

// stands: can a list be given heights? It is one that placed takes.
func stands(l []api.Ins) bool {
	folds := foldRows{numbers: map[foldRow]int{}}
	marks := make([]mark, len(l))
	marks[0].come = true
	for at, ins := range l {
		// All that hand on to it stand ahead of it, and have done so.
		if !marks[at].come {
			return false
		}
		h := marks[at].height
		behind, ok := folds.change(ins, h)
		changed, kept := onward(ins, at)
		if !ok || !hand(marks, behind, changed) || !hand(marks, h, kept) {
			return false
		}
	}
	return true
}

// hand hands a height on to places; false, if one of them is come to at another height.
func hand(marks []mark, h height, to []int) bool {
	for _, place := range to {
		if marks[place].come && marks[place].height != h {
			return false
		}
		marks[place] = mark{h, true}
	}
	return true
}
