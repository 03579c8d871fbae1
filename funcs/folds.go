package funcs

import (
	"whittle/api"
	"whittle/num"
	"whittle/value"
)

func (c common) sum() taker      { return &summed{numbers{c}} }
func (c common) product() taker  { return &multiplied{numbers{c}} }
func (c common) squares() taker  { return &squared{numbers{c}} }
func (c common) average() taker  { return &averaged{numbers{c}} }
func (c common) least() taker    { return &extreme{numbers{c}, 1} }
func (c common) greatest() taker { return &extreme{numbers{c}, -1} }
func (c common) divisor() taker  { return &dividing{numbers{c}} }
func (c common) and() taker      { return &decided{truths{c}, false} }
func (c common) or() taker       { return &decided{truths{c}, true} }
func (c common) xor() taker      { return &parity{truths{c}} }
func (c common) countA() taker   { return &tally{things{c}} }
func (c common) count() taker    { return &numberTally{tally{things{c}}} }
func (c common) concat() taker   { return &joined{things{c}} }
func (c common) first() taker    { return &foremost{things{c}} }
func (c common) last() taker     { return &hindmost{things{c}} }

// summed is SUM.
type summed struct{ numbers }

func (f *summed) take(v api.Value) { f.add(v.Num, true) }

// multiplied is PRODUCT.
type multiplied struct{ numbers }

func (f *multiplied) take(v api.Value) { f.keep(num.Mul(f.Num, v.Num)) }

// squared is SUMSQ.
type squared struct{ numbers }

func (f *squared) take(v api.Value) { f.add(num.Mul(v.Num, v.Num)) }

// averaged is AVERAGE.
type averaged struct{ numbers }

func (f *averaged) take(v api.Value) {
	if f.add(v.Num, true) {
		f.Count++
	}
}

func (f *averaged) result() api.Value {
	return value.Bin(api.OpDiv, value.Number(f.Num), whole(f.Count))
}

// extreme is MIN; MAX, if sign is -1.
type extreme struct {
	numbers
	sign int
}

func (f *extreme) take(v api.Value) {
	if !f.Has || num.Cmp(f.Num, v.Num)*f.sign > 0 {
		f.Num = v.Num
	}
	f.Has = true
}

// dividing is GCD.
type dividing struct{ numbers }

func (f *dividing) take(v api.Value) {
	a, ok := num.Whole(num.Abs(v.Num))
	if !ok {
		f.end(value.Fault(api.FaultArg))
		return
	}
	for f.Num.N != 0 {
		a, f.Num.N = f.Num.N, a%f.Num.N
	}
	f.Num.N = a
}

// decided is AND, which a false one ends; OR, if by is set.
type decided struct {
	truths
	by bool
}

func (f *decided) take(v api.Value) {
	if v.True == f.by {
		f.end(v)
	}
}

func (f *decided) result() api.Value { return value.Truth(!f.by) }

// parity is XOR.
type parity struct{ truths }

func (f *parity) take(v api.Value) {
	if v.True {
		f.Count++
	}
}

func (f *parity) result() api.Value { return value.Truth(f.Count%2 == 1) }

// tally is COUNTA.
type tally struct{ things }

func (f *tally) take(api.Value) { f.Count++ }

func (f *tally) result() api.Value { return whole(f.Count) }

// numberTally is COUNT.
type numberTally struct{ tally }

func (f *numberTally) fed(v api.Value) (api.Value, bool) {
	_, fault := value.AsNumber(v)
	return v, v.Kind != api.Blank && fault.Kind != api.Fault
}

func (f *numberTally) met(v api.Value) (api.Value, bool) { return v, v.Kind == api.Number }

// joined is CONCAT.
type joined struct{ things }

func (f *joined) take(v api.Value) {
	f.V = value.Bin(api.OpJoin, f.V, v)
	f.endAt(f.V)
}

// foremost is FIRST.
type foremost struct{ things }

func (f *foremost) take(v api.Value) { f.end(v) }

// hindmost is LAST.
type hindmost struct{ things }

func (f *hindmost) take(v api.Value) { f.V = v }
