package plain

import (
	"slices"

	"whittle/api"
	"whittle/choice"
	"whittle/funcs"
	"whittle/parts"
	"whittle/pick"
	"whittle/value"
)

// reckoner tells what the parts of a formula that stands somewhere come to over values, each with the steps that a frame would take.
type reckoner struct {
	*Values
	parts.Site
}

// whole is what a formula comes to.
func (r reckoner) whole(l []api.Node) (api.Value, int) {
	v, steps := r.part(parts.Of(l))
	return v, steps + 1
}

// part is what a part comes to that is no area.
func (r reckoner) part(p parts.Part) (api.Value, int) {
	switch p.Kind {
	case api.NodeValue:
		return p.V, 1
	case api.NodeCell:
		return r.Value(r.Cell(p.A)), 1
	case api.NodeUn:
		vs, steps := r.all(p.Parts)
		return value.Un(p.Op, vs[0]), steps + 1
	case api.NodeBin:
		vs, steps := r.all(p.Parts)
		return value.Bin(p.Op, vs[0], vs[1]), steps + 1
	}
	return r.call(p)
}

// all is what several parts come to, and the steps of all.
func (r reckoner) all(list []parts.Part) ([]api.Value, int) {
	var vs []api.Value
	sum := 0
	for _, p := range list {
		v, steps := r.part(p)
		vs, sum = append(vs, v), sum+steps
	}
	return vs, sum
}

func (r reckoner) call(p parts.Part) (api.Value, int) {
	f, _ := funcs.Of(p.Name)
	switch f.Class {
	case api.ClassFold:
		return r.fold(f.Id, p.Parts)
	case api.ClassSeek:
		return r.seek(f.Id, p.Parts)
	case api.ClassLazy:
		return r.lazy(f.Id, p.Parts)
	}
	vs, steps := r.all(p.Parts)
	return funcs.Apply(f.Id, vs...), steps + 1
}

// seek is what a call comes to that asks for areas.
func (r reckoner) seek(id int, args []parts.Part) (api.Value, int) {
	areas, values := parts.Apart(args)
	first := r.Area(areas[0].Node)
	switch id {
	case api.FnRows:
		return count(parts.Rows(first)), 1
	case api.FnColumns:
		return count(parts.Cols(first)), 1
	case api.FnIndex:
		return r.index(first, values)
	}
	return r.search(id, first, r.Area(areas[len(areas)-1].Node), values)
}

func count(n int) api.Value { return value.Number(api.Num{N: n, D: 1}) }

// index is the value of the cell that INDEX picks.
func (r reckoner) index(a api.Area, numbers []parts.Part) (api.Value, int) {
	by, steps := r.all(numbers)
	c, some := pick.Cell(a, by...)
	if !some {
		return pick.None(by...), steps + 1
	}
	return r.Value(c), steps + 1
}

// lazy is what IF, IFERROR or CHOOSE comes to.
func (r reckoner) lazy(id int, args []parts.Part) (api.Value, int) {
	args = completed(id, args)
	first, steps := r.part(args[0])
	k, v := choice.Of(id, first, len(args))
	if k == 0 {
		return v, steps + 1
	}
	v, more := r.part(args[k])
	if k < len(args)-1 {
		more++ // the jump over all behind it
	}
	return v, steps + 1 + more
}

// completed are arguments with the FALSE that IF's third one is where there is none.
func completed(id int, args []parts.Part) []parts.Part {
	if id != api.FnIf || len(args) == 3 {
		return args
	}
	no := api.Node{Kind: api.NodeValue, V: value.Truth(false)}
	return append(slices.Clone(args), parts.Part{Node: no})
}
