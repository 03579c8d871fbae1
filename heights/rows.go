package heights

import "whittle/api"

// foldRows numbers rows of folds: two rows are the same just if their numbers are, however they came about. 0 is the empty row.
type foldRows struct {
	list    []foldRow // the row number k at k - 1
	numbers map[foldRow]int
}

// foldRow is a row with a fold more behind it.
type foldRow struct{ ahead, last int }

// more is a row with a fold behind it.
func (r *foldRows) more(row, id int) int {
	longer := foldRow{row, id}
	n, known := r.numbers[longer]
	if !known {
		r.list = append(r.list, longer)
		n = len(r.list)
		r.numbers[longer] = n
	}
	return n
}

// top is a row apart: its last fold, and what is ahead of that; false, if it is empty.
func (r *foldRows) top(row int) (foldRow, bool) {
	if row == 0 {
		return foldRow{}, false
	}
	return r.list[row-1], true
}

// behind is the row of folds behind an instruction; false, if the instruction needs another one.
func (r *foldRows) behind(ins api.Ins, row int) (int, bool) {
	top, some := r.top(row)
	switch ins.Op {
	case api.InsOpen:
		return r.more(row, ins.A), true
	case api.InsFeed:
		return row, some
	case api.InsScan:
		return row, some && !Pairs(top.last)
	case api.InsScan2:
		return row, some && Pairs(top.last)
	case api.InsClose:
		return top.ahead, some
	case api.InsStore:
		return row, !some
	}
	return row, true
}
