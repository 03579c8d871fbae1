package code

import (
	"whittle/api"
	"whittle/funcs"
	"whittle/heights"
	"whittle/parts"
	"whittle/value"
)

// writer lays the instructions of a formula, one behind the other.
type writer struct {
	parts.Site
	list []api.Ins
}

func (w *writer) lay(ins api.Ins) { w.list = append(w.list, ins) }

// later is what lays, when it is called, the place behind all that is written by then into the instruction that is the last one now.
func (w *writer) later(into func(ins *api.Ins, place int)) func() {
	at := len(w.list) - 1
	// By its number: the list moves while it grows.
	return func() { into(&w.list[at], len(w.list)) }
}

func intoA(ins *api.Ins, place int)  { ins.A = place }
func intoB(ins *api.Ins, place int)  { ins.B = place }
func intoTo(ins *api.Ins, place int) { ins.To = append(ins.To, place) }

// jump lays an InsJump; what it answers lays its end.
func (w *writer) jump() func() {
	w.lay(api.Ins{Op: api.InsJump})
	return w.later(intoA)
}

func (w *writer) push(v api.Value) { w.lay(api.Ins{Op: api.InsPush, V: v}) }

func (w *writer) pushCount(n int) { w.push(value.Number(api.Num{N: n, D: 1})) }

// part writes what is no area.
func (w *writer) part(p parts.Part) {
	switch p.Kind {
	case api.NodeValue:
		w.push(p.V)
	case api.NodeCell:
		w.lay(api.Ins{Op: api.InsLoad, Cell: w.Cell(p.A)})
	case api.NodeUn:
		w.all(p.Parts)
		w.lay(api.Ins{Op: api.InsUn, A: p.Op})
	case api.NodeBin:
		w.all(p.Parts)
		w.lay(api.Ins{Op: api.InsBin, A: p.Op})
	case api.NodeCall:
		w.call(p)
	}
}

func (w *writer) all(list []parts.Part) {
	for _, p := range list {
		w.part(p)
	}
}

func (w *writer) call(p parts.Part) {
	f, _ := funcs.Of(p.Name)
	switch f.Class {
	case api.ClassScalar:
		w.all(p.Parts)
		w.lay(api.Ins{Op: api.InsCall, A: f.Id, B: p.Args})
	case api.ClassFold:
		w.fold(f.Id, p.Parts)
	case api.ClassSeek:
		w.seek(f.Id, p.Parts)
	case api.ClassLazy:
		w.lazy(f.Id, p.Parts)
	}
}

func (w *writer) fold(id int, args []parts.Part) {
	w.lay(api.Ins{Op: api.InsOpen, A: id})
	for _, arg := range args {
		if arg.IsArea() {
			w.lay(api.Ins{Op: api.InsScan, Area: w.Area(arg.Node)})
		} else {
			w.feed(arg)
		}
	}
	w.lay(api.Ins{Op: api.InsClose})
}

func (w *writer) feed(p parts.Part) {
	w.part(p)
	w.lay(api.Ins{Op: api.InsFeed})
}

func (w *writer) seek(id int, args []parts.Part) {
	areas, values := parts.Apart(args)
	first := w.Area(areas[0].Node)
	switch id {
	case api.FnRows:
		w.pushCount(parts.Rows(first))
	case api.FnColumns:
		w.pushCount(parts.Cols(first))
	case api.FnIndex:
		w.all(values)
		w.lay(api.Ins{Op: api.InsPick, Area: first, B: len(values)})
	default:
		w.search(id, first, w.Area(areas[len(areas)-1].Node), values)
	}
}

// search writes a search with its needle, if it has one, through an area; or, if it pairs cells, through two, which may be one.
func (w *writer) search(id int, first, last api.Area, needle []parts.Part) {
	w.lay(api.Ins{Op: api.InsOpen, A: id})
	for _, p := range needle {
		w.feed(p)
	}
	if heights.Pairs(id) {
		w.lay(api.Ins{Op: api.InsScan2, Area: first, Pair: last})
	} else {
		w.lay(api.Ins{Op: api.InsScan, Area: first})
	}
	w.lay(api.Ins{Op: api.InsClose})
}

func (w *writer) lazy(id int, args []parts.Part) {
	w.part(args[0])
	switch id {
	case api.FnIf:
		w.branch(args[1], args[2:])
	case api.FnIfError:
		w.guard(args[1])
	case api.FnChoose:
		w.choose(args[1:])
	}
}

// branch writes what stands behind a condition.
func (w *writer) branch(yes parts.Part, no []parts.Part) {
	w.lay(api.Ins{Op: api.InsBranch})
	beginNo, endFault := w.later(intoA), w.later(intoB)
	w.part(yes)
	endYes := w.jump()
	beginNo()
	w.all(no)
	if len(no) == 0 {
		w.push(value.Truth(false))
	}
	endYes()
	endFault()
}

// guard writes what stands behind a value that may be a fault.
func (w *writer) guard(instead parts.Part) {
	w.lay(api.Ins{Op: api.InsGuard})
	end := w.later(intoA)
	w.part(instead)
	end()
}

// choose writes what stands behind a number.
func (w *writer) choose(list []parts.Part) {
	w.lay(api.Ins{Op: api.InsChoose})
	begin, endFault := w.later(intoTo), w.later(intoB)
	ends := []func(){endFault}
	for i, p := range list {
		if i > 0 {
			ends = append(ends, w.jump())
		}
		begin()
		w.part(p)
	}
	for _, end := range ends {
		end()
	}
}
