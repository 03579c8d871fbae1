package code

import (
	"slices"

	"whittle/api"
	"whittle/funcs"
	"whittle/heights"
	"whittle/place"
	"whittle/value"
)

// placed: is each instruction right, does it hand on to places behind it, and does InsStore end the list, and stand nowhere else?
func placed(l []api.Ins) bool {
	for at, ins := range l {
		if !right(ins) || (ins.Op == api.InsStore) != (at == len(l)-1) {
			return false
		}
		stray := func(to int) bool { return to <= at || to >= len(l) }
		changed, kept := heights.Onward(ins, at)
		if slices.ContainsFunc(changed, stray) || slices.ContainsFunc(kept, stray) {
			return false
		}
	}
	return len(l) > 0
}

// right: has an instruction what its Op asks for, and nothing else? (Where its places stand is asked elsewhere.)
func right(ins api.Ins) bool {
	own, ok := api.Ins{Op: ins.Op}, false
	switch ins.Op {
	case api.InsPush:
		own.V, ok = ins.V, value.Right(ins.V)
	case api.InsLoad:
		own.Cell, ok = ins.Cell, place.Right(ins.Cell)
	case api.InsUn:
		own.A, ok = ins.A, ins.A >= api.OpNeg && ins.A <= api.OpPercent
	case api.InsBin:
		own.A, ok = ins.A, ins.A >= api.OpAdd && ins.A <= api.OpJoin || ins.A >= api.OpEq && ins.A <= api.OpGe
	case api.InsCall:
		own.A, own.B, ok = ins.A, ins.B, applies(ins.A, ins.B)
	case api.InsOpen:
		own.A, ok = ins.A, opens(ins.A)
	case api.InsFeed, api.InsClose, api.InsStore:
		ok = true
	case api.InsScan:
		own.Area, ok = ins.Area, place.RightArea(ins.Area)
	case api.InsScan2:
		own.Area, own.Pair = ins.Area, ins.Pair
		ok = place.RightArea(ins.Area) && place.RightArea(ins.Pair) && sameShape(ins.Area, ins.Pair)
	case api.InsPick:
		own.Area, own.B, ok = ins.Area, ins.B, place.RightArea(ins.Area) && (ins.B == 1 || ins.B == 2)
	case api.InsBranch:
		own.A, own.B, ok = ins.A, ins.B, true
	case api.InsJump, api.InsGuard:
		own.A, ok = ins.A, true
	case api.InsChoose:
		own.To, own.B, ok = ins.To, ins.B, len(ins.To) >= 1 && len(ins.To) <= api.MaxArgs
	}
	return ok && same(ins, own)
}

// same: have two instructions of one Op the same fields?
func same(a, b api.Ins) bool {
	return a.A == b.A && a.B == b.B && a.V == b.V && a.Cell == b.Cell && a.Area == b.Area && a.Pair == b.Pair && slices.Equal(a.To, b.To)
}

// applies: is it the number of a scalar that takes so many arguments?
func applies(id, args int) bool {
	f, ok := funcs.ById(id)
	return ok && f.Class == api.ClassScalar && args >= f.Least && args <= f.Most
}

func opens(id int) bool {
	_, why := funcs.Open(id)
	return why == api.OK
}
