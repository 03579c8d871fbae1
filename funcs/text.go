package funcs

import (
	"strings"

	"whittle/api"
	"whittle/num"
	"whittle/value"
)

// ofTexts does a function that takes a text first.
func ofTexts(id int, t taken) api.Value {
	s := t.texts[0]
	switch id {
	case api.FnLen:
		return whole(len(s))
	case api.FnUpper:
		return value.Text(strings.ToUpper(s))
	case api.FnLower:
		return value.Text(strings.ToLower(s))
	case api.FnTrim:
		// The blank is the one byte of a text at which Fields parts it.
		return value.Text(strings.Join(strings.Fields(s), " "))
	case api.FnFind:
		return found(s, t.texts[1])
	case api.FnMid:
		return middle(s, t.nums[0], t.nums[1])
	}
	k, ok := atLeast(t.nums[0], 0)
	switch {
	case !ok:
		return value.Fault(api.FaultArg)
	case id == api.FnRept:
		return repeated(s, k)
	case id == api.FnLeft:
		return value.Text(s[:min(k, len(s))])
	}
	return value.Text(s[len(s)-min(k, len(s)):])
}

// atLeast is n as a whole number; false: it is none, or below least.
func atLeast(n api.Num, least int) (int, bool) {
	k, ok := num.Whole(n)
	return k, ok && k >= least
}

func found(part, s string) api.Value {
	at := strings.Index(s, part)
	if at < 0 {
		return value.Fault(api.FaultNA)
	}
	return whole(at + 1)
}

// middle counts its bytes from 1 on.
func middle(s string, from, many api.Num) api.Value {
	first, ok := atLeast(from, 1)
	k, ok2 := atLeast(many, 0)
	if !ok || !ok2 {
		return value.Fault(api.FaultArg)
	}
	rest := s[min(first-1, len(s)):]
	return value.Text(rest[:min(k, len(rest))])
}

// repeated asks for the length ahead: k may be far too great to be tried.
func repeated(s string, k int) api.Value {
	if len(s)*k > api.MaxText {
		return value.Fault(api.FaultLong)
	}
	return value.Text(strings.Repeat(s, k))
}
