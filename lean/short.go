package lean

import (
	"whittle/api"
	"whittle/pick"
)

// short is the row of a formula whose code is a node's lean code, but for the values: those that are settled need not be such as a row may have, so each stands there as the Number of its node's place, till it is filled in.
func (f formula) short(at int) []api.Node {
	if _, ok := f.value(at); ok {
		return []api.Node{{Kind: api.NodeValue, V: count(at)}}
	}
	if to, ok := f.decided(at); ok {
		return f.short(to.arg)
	}
	if cell, ok := f.picked(at); ok {
		return []api.Node{cell}
	}
	l := []api.Node{f.row[at]}
	for _, part := range f.parts[at] {
		l = append(l, f.short(part)...)
	}
	return l
}

// picked is the cell that a node that is not settled picks, if it is INDEX and its numbers are; else false.
func (f formula) picked(at int) (api.Node, bool) {
	if f.call(at).Id != api.FnIndex {
		return api.Node{}, false
	}
	args := f.parts[at]
	by, ok := f.values(args[1:])
	if !ok {
		return api.Node{}, false
	}
	// There is one: else it would be settled, too.
	c, _ := pick.Cell(f.area(args[0]), by...)
	sheet := f.row[args[0]].A.Sheet
	return api.Node{Kind: api.NodeCell, A: api.Ref{Sheet: sheet, Row: c.Row, Col: c.Col}}, true
}

// fill lays the settled values into the code of a short row.
func (f formula) fill(l []api.Ins) {
	for i, ins := range l {
		// No other Number is pushed: an IF without its third argument pushes a Truth.
		if ins.Op == api.InsPush && ins.V.Kind == api.Number {
			l[i].V, _ = f.value(ins.V.Num.N)
		}
	}
}
