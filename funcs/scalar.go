package funcs

import (
	"whittle/api"
	"whittle/num"
	"whittle/value"
)

// taken are a scalar's arguments as it takes them: its texts, its numbers, each from the left, and its truth.
type taken struct {
	texts [2]string
	nums  [2]api.Num
	truth bool
}

// Apply does a scalar function.
func Apply(id int, args ...api.Value) api.Value {
	s, _ := ById(id)
	if s.Class != api.ClassScalar || len(args) < s.Least || len(args) > s.Most {
		return value.Fault(api.FaultValue)
	}
	vs := make([]api.Value, 0, s.Most)
	for _, v := range args {
		vs = append(vs, counted(v))
	}
	switch id {
	case api.FnNA:
		return value.Fault(api.FaultNA)
	case api.FnIsNumber:
		return value.Truth(vs[0].Kind == api.Number)
	case api.FnIsText:
		return value.Truth(vs[0].Kind == api.Text)
	case api.FnIsBlank:
		return value.Truth(vs[0].Kind == api.Blank)
	case api.FnIsError:
		return value.Truth(vs[0].Kind == api.Fault)
	case api.FnPower:
		return value.Bin(api.OpPow, vs[0], vs[1])
	}
	return applied(id, vs)
}

// counted is v as it counts where it is handed in.
func counted(v api.Value) api.Value {
	if !value.Right(v) {
		return value.Fault(api.FaultValue)
	}
	return v
}

// applied does a function that takes its arguments as kinds of its own. A fault among them goes ahead of one that comes of taking them.
func applied(id int, vs []api.Value) api.Value {
	for _, v := range vs {
		if v.Kind == api.Fault {
			return v
		}
	}
	as := takes(id)
	if len(vs) < len(as) {
		vs = append(vs, missing(id))
	}
	t, fault := take(as, vs)
	switch {
	case fault.Kind == api.Fault:
		return fault
	case as[0] == 'n':
		return ofNumbers(id, t.nums[0], t.nums[1])
	case as[0] == 'b':
		return value.Truth(!t.truth)
	}
	return ofTexts(id, t)
}

// takes says as what a function takes its arguments, a letter each: n: a number, t: a text, b: a truth.
func takes(id int) string {
	switch id {
	case api.FnAbs, api.FnSign, api.FnInt, api.FnValue:
		return "n"
	case api.FnRound, api.FnMod, api.FnQuotient:
		return "nn"
	case api.FnNot:
		return "b"
	case api.FnLeft, api.FnRight, api.FnRept:
		return "tn"
	case api.FnMid:
		return "tnn"
	case api.FnFind:
		return "tt"
	}
	return "t"
}

// missing is the last argument of a function, where it is not given: no places of ROUND, one byte of the others.
func missing(id int) api.Value {
	if id == api.FnRound {
		return whole(0)
	}
	return whole(1)
}

// take takes each value as its letter says; the first fault that comes of it is told.
func take(as string, vs []api.Value) (taken, api.Value) {
	var t taken
	texts, nums := 0, 0
	for i, v := range vs {
		fault := value.Blank()
		switch as[i] {
		case 'n':
			t.nums[nums], fault = value.AsNumber(v)
			nums++
		case 't':
			t.texts[texts], fault = value.AsText(v)
			texts++
		default:
			t.truth, fault = value.AsTruth(v)
		}
		if fault.Kind == api.Fault {
			return taken{}, fault
		}
	}
	return t, value.Blank()
}

// ofNumbers does a function that takes numbers alone.
func ofNumbers(id int, x, y api.Num) api.Value {
	switch id {
	case api.FnAbs:
		return value.Number(num.Abs(x))
	case api.FnSign:
		return whole(num.Cmp(x, api.Num{N: 0, D: 1}))
	case api.FnInt:
		return value.Number(num.Floor(x))
	case api.FnRound:
		return rounded(x, y)
	case api.FnMod:
		if y.N == 0 {
			return value.Fault(api.FaultDiv)
		}
		return fitted(num.Mod(x, y))
	case api.FnQuotient:
		return quotient(x, y)
	}
	return value.Number(x)
}

func rounded(x, y api.Num) api.Value {
	places, ok := num.Whole(y)
	if !ok {
		return value.Fault(api.FaultArg)
	}
	return fitted(num.Round(x, places))
}

// quotient asks whether the whole number fits, not the fraction below it. Both products are at most 10^18.
func quotient(x, y api.Num) api.Value {
	if y.N == 0 {
		return value.Fault(api.FaultDiv)
	}
	p, q := x.N*y.D, x.D*y.N
	k := p / q
	if p%q != 0 && (p < 0) != (q < 0) {
		k--
	}
	return whole(k)
}

// whole is the value of a whole number; #NUM!, if it doesn't fit.
func whole(k int) api.Value { return fitted(num.Make(k, 1)) }

// fitted is the value of what num answers.
func fitted(n api.Num, ok bool) api.Value {
	if !ok {
		return value.Fault(api.FaultNum)
	}
	return value.Number(n)
}
