package graph

import "whittle/api"

// walk goes from formulas to those that they use, and settles each behind all that it uses; those that reach each other at one time. (Tarjan's way to the strong components of a graph.)
type walk struct {
	formulas
	count int        // how many it has come to
	open  []*formula // those of them that are not settled yet: each reaches the one that is visited
}

// settle finds anew where the formulas of these cells stand; all others stand where they did, and use none of these.
func (fs formulas) settle(cells []api.Cell) {
	var loose []*formula
	for _, c := range cells {
		if f, is := fs[c]; is {
			f.settled, f.number = false, 0
			loose = append(loose, f)
		}
	}
	w := walk{formulas: fs}
	for _, f := range loose {
		if !f.settled {
			w.visit(f)
		}
	}
}

// visit comes to a formula, and answers the least number of an open one that it reaches.
func (w *walk) visit(f *formula) int {
	w.count++
	f.number = w.count
	at := len(w.open)
	w.open = append(w.open, f)
	least, s := f.number, standing{level: 1}
	for x := range w.used(f) {
		if !x.settled && x.number == 0 {
			least = min(least, w.visit(x))
		}
		if x.settled {
			s = s.with(x.standing)
			continue
		}
		// It is open, so it reaches f, too.
		least = min(least, x.number)
		s.circle = true
	}
	if least == f.number {
		w.close(at, s)
	}
	return least
}

// close settles the open ones from a place on: they reach each other, if they lie on a circle, and else there is just one.
func (w *walk) close(from int, s standing) {
	if s.circle || s.cyclic {
		s = standing{cyclic: true, circle: s.circle}
	}
	for _, f := range w.open[from:] {
		f.standing, f.settled = s, true
	}
	w.open = w.open[:from]
}
