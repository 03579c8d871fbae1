package lean

import (
	"whittle/api"
	"whittle/value"
)

// outcome is what IF, IFERROR or CHOOSE comes to by its first argument.
type outcome struct {
	arg int       // where the argument begins; 0, which is no argument's place: none of them
	v   api.Value // of none: the value
}

// lazy is the value at which IF, IFERROR or CHOOSE is settled.
func (f formula) lazy(at int) (api.Value, bool) {
	to, ok := f.decided(at)
	if ok && to.arg > 0 {
		return f.value(to.arg)
	}
	return to.v, ok
}

// decided is what a node comes to, if it is IF, IFERROR or CHOOSE and its first argument is settled; else false.
func (f formula) decided(at int) (outcome, bool) {
	call, args := f.call(at), f.parts[at]
	if call.Class != api.ClassLazy {
		return outcome{}, false
	}
	first, ok := f.value(args[0])
	if !ok {
		return outcome{}, false
	}
	switch call.Id {
	case api.FnIf:
		return branch(first, args), true
	case api.FnIfError:
		return guard(first, args), true
	}
	return choose(first, args), true
}

// branch is what IF comes to by its condition.
func branch(condition api.Value, args []int) outcome {
	yes, fault := value.AsTruth(condition)
	switch {
	case isFault(fault):
		return outcome{v: fault}
	case yes:
		return outcome{arg: args[1]}
	case len(args) == 2:
		return outcome{v: value.Truth(false)}
	}
	return outcome{arg: args[2]}
}

// guard is what IFERROR comes to by its first argument.
func guard(first api.Value, args []int) outcome {
	if isFault(first) {
		return outcome{arg: args[1]}
	}
	return outcome{v: first}
}

// choose is what CHOOSE comes to by its first argument: as args has that one, too, the others stand at their numbers.
func choose(first api.Value, args []int) outcome {
	k, fault := value.AsNumber(first)
	switch {
	case isFault(fault):
		return outcome{v: fault}
	case k.D != 1 || k.N < 1 || k.N >= len(args):
		return outcome{v: value.Fault(api.FaultArg)}
	}
	return outcome{arg: args[k.N]}
}
