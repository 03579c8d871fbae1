package graph

import (
	"iter"

	"whittle/api"
	"whittle/inside"
	"whittle/place"
)

// formula is what is known of a cell that holds one.
type formula struct {
	cell api.Cell
	uses []api.Area
	standing
	settled bool // its standing is known
	number  int  // while it is not: its turn among those that the walk has come to, from 1 on; 0, if it has not
}

// standing is where a formula stands by what it uses.
type standing struct {
	level  int // 0 of a cyclic one
	cyclic bool
	circle bool // it lies on one
}

// with is the standing of a formula that uses one more.
func (s standing) with(used standing) standing {
	s.level = max(s.level, used.level+1)
	s.cyclic = s.cyclic || used.cyclic
	return s
}

// formulas are all of the book, by their cells.
type formulas map[api.Cell]*formula

// at is the formula of a cell; one that uses nothing and stands nowhere, if there is none.
func (fs formulas) at(c api.Cell) *formula {
	if f, is := fs[c]; is {
		return f
	}
	return &formula{}
}

// used are the formulas that one uses; what two of its areas have in common comes twice.
func (fs formulas) used(by *formula) iter.Seq[*formula] {
	return func(yield func(*formula) bool) {
		for _, a := range by.uses {
			for _, f := range inside.Of(fs, a) {
				if !yield(f) {
					return
				}
			}
		}
	}
}

// firstOnCircle is the first cell, in their order, that lies on a circle and that a formula reaches; false, if there is none.
func (fs formulas) firstOnCircle(from *formula) (api.Cell, bool) {
	first, ok := api.Cell{}, false
	seen := set[api.Cell]{}
	row := []*formula{from}
	for i := 0; i < len(row); i++ {
		for f := range fs.used(row[i]) {
			// What is not cyclic reaches no circle.
			if !f.cyclic || !seen.add(f.cell) {
				continue
			}
			row = append(row, f)
			if f.circle && (!ok || place.Before(f.cell, first)) {
				first, ok = f.cell, true
			}
		}
	}
	return first, ok
}
