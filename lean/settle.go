package lean

import (
	"whittle/api"
	"whittle/funcs"
	"whittle/parts"
	"whittle/pick"
	"whittle/tree"
	"whittle/value"
)

// spot is a place in a formula's row.
type spot struct{ at int }

// formula is one that code.Flatten takes, and what is settled of it.
type formula struct {
	row     []api.Node
	parts   [][]int            // of each node: where its parts begin
	settled map[spot]api.Value // of each node that is settled: at what
}

// settle settles what can be settled of a formula.
func settle(l []api.Node) formula {
	f := formula{l, make([][]int, len(l)), map[spot]api.Value{}}
	// From the last one on: parts stand behind their node, and are settled ahead of it.
	for at := len(l) - 1; at >= 0; at-- {
		f.parts[at] = tree.Kids(l, at)
		if v, ok := f.work(at); ok {
			f.settled[spot{at}] = v
		}
	}
	return f
}

// value is that at which a node is settled; false, if it is not.
func (f formula) value(at int) (api.Value, bool) {
	v, ok := f.settled[spot{at}]
	return v, ok
}

// values are those at which nodes are settled; false, if one is not.
func (f formula) values(nodes []int) ([]api.Value, bool) {
	var list []api.Value
	for _, at := range nodes {
		v, ok := f.value(at)
		if !ok {
			return nil, false
		}
		list = append(list, v)
	}
	return list, true
}

// call is the function that a node calls; the zero one, if it is no call.
func (f formula) call(at int) api.Sig {
	call, _ := funcs.Of(f.row[at].Name)
	return call
}

// work is the value at which a node is settled, by those of its parts; false, if it is not.
func (f formula) work(at int) (api.Value, bool) {
	kind, class := f.row[at].Kind, f.call(at).Class
	switch {
	case kind == api.NodeCell || kind == api.NodeArea:
		return api.Value{}, false
	case class == api.ClassSeek:
		return f.seek(at)
	case class == api.ClassLazy:
		return f.lazy(at)
	}
	by, ok := f.values(f.parts[at])
	if !ok {
		return api.Value{}, false
	}
	return f.eager(at, by), true
}

// eager is what a node that asks for all its parts comes to by their values.
func (f formula) eager(at int, by []api.Value) api.Value {
	n, call := f.row[at], f.call(at)
	switch {
	case n.Kind == api.NodeValue:
		return n.V
	case n.Kind == api.NodeUn:
		return value.Un(n.Op, by[0])
	case n.Kind == api.NodeBin:
		return value.Bin(n.Op, by[0], by[1])
	case call.Class == api.ClassFold:
		return fold(call.Id, by)
	}
	return funcs.Apply(call.Id, by...)
}

// fold is what a fold comes to that is fed these.
func fold(id int, by []api.Value) api.Value {
	// Every fold can be opened.
	acc, _ := funcs.Open(id)
	for _, v := range by {
		acc.Feed(v)
	}
	return acc.Result()
}

// seek is the value at which a call that asks for areas is settled.
func (f formula) seek(at int) (api.Value, bool) {
	args := f.parts[at]
	switch f.call(at).Id {
	case api.FnRows:
		return count(parts.Rows(f.area(args[0]))), true
	case api.FnColumns:
		return count(parts.Cols(f.area(args[0]))), true
	case api.FnIndex:
		return f.index(at)
	case api.FnMatch, api.FnLookup:
		return f.needle(args[0])
	case api.FnCountIf, api.FnSumIf:
		return f.needle(args[1])
	}
	return api.Value{}, false
}

// area is the rectangle of an area, on no sheet: nothing that is settled hangs on that.
func (f formula) area(at int) api.Area { return parts.Rectangle(f.row[at]) }

func count(n int) api.Value { return value.Number(api.Num{N: n, D: 1}) }

// index is the value at which INDEX is settled: it picks no cell, then.
func (f formula) index(at int) (api.Value, bool) {
	args := f.parts[at]
	by, ok := f.values(args[1:])
	if !ok {
		return api.Value{}, false
	}
	if _, some := pick.Cell(f.area(args[0]), by...); some {
		return api.Value{}, false
	}
	return pick.None(by...), true
}

// needle is the value at which a search is settled by its needle: with a fault it ends ahead of the first cell.
func (f formula) needle(at int) (api.Value, bool) {
	v, ok := f.value(at)
	if !ok || !isFault(v) {
		return api.Value{}, false
	}
	return v, true
}

func isFault(v api.Value) bool { return v.Kind == api.Fault }
