// Package choice: which argument IF, IFERROR and CHOOSE come to by the value of their first one (DOC.md, 9.3's InsBranch, InsGuard, InsChoose). What is worked out without a run hangs on it, ahead of one or instead of it.
package choice

import (
	"whittle/api"
	"whittle/value"
)

// Of is the number, from 1 on, of the argument behind the first one that such a function with so many arguments comes to; or 0, and what it comes to by its first one alone.
func Of(id int, first api.Value, args int) (int, api.Value) {
	switch id {
	case api.FnIf:
		return branch(first, args)
	case api.FnIfError:
		return guard(first)
	}
	return choose(first, args)
}

func branch(condition api.Value, args int) (int, api.Value) {
	yes, fault := value.AsTruth(condition)
	switch {
	case isFault(fault):
		return 0, fault
	case yes:
		return 1, value.Blank()
	case args == 2:
		return 0, value.Truth(false)
	}
	return 2, value.Blank()
}

func guard(first api.Value) (int, api.Value) {
	if isFault(first) {
		return 1, value.Blank()
	}
	return 0, first
}

func choose(first api.Value, args int) (int, api.Value) {
	k, fault := value.AsNumber(first)
	switch {
	case isFault(fault):
		return 0, fault
	case k.D != 1 || k.N < 1 || k.N >= args:
		return 0, value.Fault(api.FaultArg)
	}
	return k.N, value.Blank()
}

func isFault(v api.Value) bool { return v.Kind == api.Fault }
