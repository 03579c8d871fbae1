package value

import (
	"whittle/api"
	"whittle/num"
)

// The families of the operations of two.
const (
	noFamily = iota
	reckoning
	joining
	comparing
)

// Un does an operation of one.
func Un(op int, a api.Value) api.Value {
	if op != api.OpNeg && op != api.OpPlus && op != api.OpPercent {
		return Fault(api.FaultValue)
	}
	a = counted(a)
	if op == api.OpPlus {
		return a
	}
	x, fault := AsNumber(a)
	switch {
	case fault.Kind == api.Fault:
		return fault
	case op == api.OpNeg:
		return Number(num.Neg(x))
	}
	return fitted(num.Div(x, api.Num{N: 100, D: 1}))
}

// Bin does an operation of two.
func Bin(op int, a, b api.Value) api.Value {
	kind := family(op)
	if kind == noFamily {
		return Fault(api.FaultValue)
	}
	a, b = counted(a), counted(b)
	switch {
	case a.Kind == api.Fault:
		return a
	case b.Kind == api.Fault:
		return b
	case kind == reckoning:
		return reckoned(op, a, b)
	case kind == joining:
		return joined(a, b)
	}
	return Truth(holds(op, Cmp(a, b)))
}

// Join is all of them as texts, one behind the other, up to the first fault.
func Join(vs ...api.Value) api.Value {
	all := Text("")
	for _, v := range vs {
		all = Bin(api.OpJoin, all, v)
		if all.Kind == api.Fault {
			break
		}
	}
	return all
}

func family(op int) int {
	switch {
	case op >= api.OpAdd && op <= api.OpPow:
		return reckoning
	case op == api.OpJoin:
		return joining
	case op >= api.OpEq && op <= api.OpGe:
		return comparing
	}
	return noFamily
}

// reckoned asks a for its number ahead of b: the first fault is told.
func reckoned(op int, a, b api.Value) api.Value {
	x, fault := AsNumber(a)
	if fault.Kind == api.Fault {
		return fault
	}
	y, fault := AsNumber(b)
	if fault.Kind == api.Fault {
		return fault
	}
	switch op {
	case api.OpAdd:
		return fitted(num.Add(x, y))
	case api.OpSub:
		return fitted(num.Sub(x, y))
	case api.OpMul:
		return fitted(num.Mul(x, y))
	case api.OpDiv:
		return divided(x, y)
	}
	return raised(x, y)
}

func divided(x, y api.Num) api.Value {
	if y.N == 0 {
		return Fault(api.FaultDiv)
	}
	return fitted(num.Div(x, y))
}

func raised(x, y api.Num) api.Value {
	if x.N == 0 && y.N < 0 {
		// Ahead of the next question: any power below 0 divides by 0, a whole one or not.
		return Fault(api.FaultDiv)
	}
	k, whole := num.Whole(y)
	if !whole {
		return Fault(api.FaultNum)
	}
	return fitted(num.Pow(x, k))
}

// fitted is the value of what num answers.
func fitted(n api.Num, ok bool) api.Value {
	if !ok {
		return Fault(api.FaultNum)
	}
	return Number(n)
}

// joined takes no faults: each other kind is a text.
func joined(a, b api.Value) api.Value {
	s, _ := AsText(a)
	t, _ := AsText(b)
	return Text(s + t)
}

// holds: is the comparison op true, where Cmp tells c?
func holds(op, c int) bool {
	opposite := false
	switch op {
	case api.OpNe:
		opposite = true
		fallthrough
	case api.OpEq:
		return (c == 0) != opposite
	case api.OpGe:
		opposite = true
		fallthrough
	case api.OpLt:
		return (c < 0) != opposite
	case api.OpLe:
		opposite = true
		fallthrough
	default:
		return (c > 0) != opposite
	}
}
