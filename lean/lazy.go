package lean

import (
	"whittle/api"
	"whittle/choice"
)

// outcome is what IF, IFERROR or CHOOSE comes to by its first argument.
type outcome struct {
	arg int       // where the argument begins; 0, which is no argument's place: none of them
	v   api.Value // of none: the value
}

// lazy is the value at which IF, IFERROR or CHOOSE is settled.
func (f formula) lazy(at int) (api.Value, bool) {
	to, ok := f.decided(at)
	if ok && to.arg > 0 {
		return f.value(to.arg)
	}
	return to.v, ok
}

// decided is what a node comes to, if it is IF, IFERROR or CHOOSE and its first argument is settled; else false.
func (f formula) decided(at int) (outcome, bool) {
	call, args := f.call(at), f.parts[at]
	if call.Class != api.ClassLazy {
		return outcome{}, false
	}
	first, ok := f.value(args[0])
	if !ok {
		return outcome{}, false
	}
	k, v := choice.Of(call.Id, first, len(args))
	if k == 0 {
		return outcome{v: v}, true
	}
	return outcome{arg: args[k]}, true
}
