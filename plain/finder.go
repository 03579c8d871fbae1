package plain

import (
	"whittle/among"
	"whittle/api"
	"whittle/graph"
	"whittle/parts"
	"whittle/tree"
	"whittle/value"
)

// finder finds what a graph's cells come to.
type finder struct {
	*Values
	graph    *graph.Graph
	sheets   []string
	formulas among.Cells // those that are to be worked out
}

// all finds it of all cells.
func (f *finder) all() {
	for _, c := range f.filled {
		switch {
		case f.graph.Kind(c) == api.Constant:
			f.found[c] = finding{v: f.graph.Constant(c)}
		case f.graph.Cyclic(c):
			f.found[c] = finding{v: value.Fault(api.FaultCircle)}
		default:
			f.formulas = append(f.formulas, c)
		}
	}
	for _, c := range f.formulas {
		f.formula(c)
	}
}

// formula finds it of a formula, behind all formulas that it uses; each is worked out once.
func (f *finder) formula(c api.Cell) {
	if _, known := f.found[c]; known {
		return
	}
	// It counts as known meanwhile: so this ends even where a circle was laid behind the graph's back, by an edit of its book alone.
	f.found[c] = finding{}
	for _, a := range f.graph.Uses(c) {
		for _, used := range f.formulas.In(a) {
			f.formula(used)
		}
	}
	// The book took what stands behind the =.
	row, _, _ := tree.Parse(f.graph.Text(c)[1:])
	v, steps := reckoner{f.Values, parts.At(c, f.sheets...)}.whole(row)
	f.found[c] = finding{v, steps}
}
