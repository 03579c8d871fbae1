package value

import (
	"cmp"
	"strings"

	"whittle/api"
	"whittle/num"
)

// Cmp is -1, 0, 1, as a is below b, beside it, above it.
func Cmp(a, b api.Value) int {
	a, b = counted(a), counted(b)
	a, b = filled(a, b), filled(b, a)
	if a.Kind != b.Kind {
		// The kinds' numbers stand in the order of the kinds, Blank's ahead of all.
		return cmp.Compare(a.Kind, b.Kind)
	}
	switch a.Kind {
	case api.Number:
		return num.Cmp(a.Num, b.Num)
	case api.Text:
		return strings.Compare(a.Text, b.Text)
	case api.Truth:
		return cmp.Compare(bit(a.True), bit(b.True))
	}
	return cmp.Compare(a.Fault, b.Fault)
}

// Same: are they the same, as searches ask?
func Same(a, b api.Value) bool {
	a, b = counted(a), counted(b)
	if a.Kind != b.Kind || a.Kind == api.Blank || a.Kind == api.Fault {
		return false
	}
	return Cmp(a, b) == 0
}

// filled is what a counts as against b: a Blank takes on the kind of what it stands against.
func filled(a, b api.Value) api.Value {
	if a.Kind != api.Blank {
		return a
	}
	switch b.Kind {
	case api.Number:
		return Number(api.Num{N: 0, D: 1})
	case api.Text:
		return Text("")
	case api.Truth:
		return Truth(false)
	}
	return a
}

func bit(b bool) int {
	if b {
		return 1
	}
	return 0
}
