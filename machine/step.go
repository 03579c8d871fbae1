package machine

import (
	"whittle/api"
	"whittle/funcs"
	"whittle/pick"
	"whittle/value"
)

// Step does a step, with the value of the cell that Wants tells; false: the run has ended.
func (f *Frame) Step(v api.Value) bool {
	if f.done {
		return false
	}
	if !value.Right(v) {
		v = value.Fault(api.FaultValue)
	}
	ins, next := f.list[f.at], f.at+1
	switch ins.Op {
	case api.InsPush:
		f.put(ins.V)
	case api.InsLoad:
		f.put(v)
	case api.InsUn:
		f.put(value.Un(ins.A, f.take(1)[0]))
	case api.InsBin:
		two := f.take(2)
		f.put(value.Bin(ins.A, two[0], two[1]))
	case api.InsCall:
		f.put(funcs.Apply(ins.A, f.take(ins.B)...))
	case api.InsOpen:
		f.open(ins.A)
	case api.InsFeed:
		f.fold().Feed(f.take(1)[0])
	case api.InsScan, api.InsScan2:
		if f.pass(v) {
			goto stays
		}
	case api.InsClose:
		f.put(f.close())
	case api.InsPick:
		f.put(picked(ins.Area, f.take(ins.B), v))
	case api.InsBranch:
		next = f.branch(ins)
	case api.InsJump:
		next = ins.A
	case api.InsGuard:
		next = f.guard(ins)
	case api.InsChoose:
		next = f.choose(ins)
	case api.InsStore:
		f.done = true
		goto stays
	}
	f.come(next)
stays:
	f.steps++
	return true
}

// open lays a fold that begins on top.
func (f *Frame) open(id int) {
	// A code opens none but such as there are.
	begun, _ := funcs.Open(id)
	f.folds = append(f.folds, begun)
}

// close takes the top fold off, and tells what it came to.
func (f *Frame) close() api.Value {
	result := f.fold().Result()
	f.folds = f.folds[:len(f.folds)-1]
	return result
}

// pass hands a scan's value to the top fold; does the scan go on?
func (f *Frame) pass(v api.Value) bool {
	top := f.fold()
	switch {
	case top.Wants():
		top.Pair(v)
	case !top.Full():
		top.Cell(v)
		f.scan.Next()
	}
	return !top.Full() && (top.Wants() || f.Left() > 0)
}

// picked is what a pick by these values comes to, if v is the value of the cell that they tell.
func picked(a api.Area, by []api.Value, v api.Value) api.Value {
	if _, some := pick.Cell(a, by...); some {
		return v
	}
	return pick.None(by...)
}

func isFault(v api.Value) bool { return v.Kind == api.Fault }

// branch is the place that comes behind a condition.
func (f *Frame) branch(ins api.Ins) int {
	yes, fault := value.AsTruth(f.take(1)[0])
	switch {
	case isFault(fault):
		f.put(fault)
		return ins.B
	case yes:
		return f.at + 1
	}
	return ins.A
}

// guard is the place that comes behind a value that may be a fault.
func (f *Frame) guard(ins api.Ins) int {
	if !isFault(f.tops(1)[0]) {
		return ins.A
	}
	f.take(1)
	return f.at + 1
}

// choose is the place that comes behind a number.
func (f *Frame) choose(ins api.Ins) int {
	k, fault := value.AsNumber(f.take(1)[0])
	switch {
	case isFault(fault):
		f.put(fault)
		return ins.B
	case k.D != 1 || k.N < 1 || k.N > len(ins.To):
		f.put(value.Fault(api.FaultArg))
		return ins.B
	}
	return ins.To[k.N-1]
}
