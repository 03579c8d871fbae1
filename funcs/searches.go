package funcs

import (
	"strings"

	"whittle/api"
	"whittle/num"
	"whittle/value"
)

func (c common) match() taker      { return &matched{seeks{c}} }
func (c common) countIf() taker    { return &countedIf{seeks{c}} }
func (c common) sumIf() taker      { return &summedIf{seeks{c}} }
func (c common) lookup() taker     { return &lookedUp{seeks{c}} }
func (c common) sumProduct() taker { return &summedPairs{c} }

// matched is MATCH.
type matched struct{ seeks }

func (f *matched) take(v api.Value) {
	f.Count++
	if f.Has && value.Same(f.Needle, v) {
		f.end(whole(f.Count))
	}
}

func (f *matched) result() api.Value { return value.Fault(api.FaultNA) }

// countedIf is COUNTIF.
type countedIf struct{ seeks }

func (f *countedIf) take(v api.Value) {
	if f.Has && meets(v, f.Needle) {
		f.Count++
	}
}

func (f *countedIf) result() api.Value { return whole(f.Count) }

// summedIf is SUMIF.
type summedIf struct{ seeks }

func (f *summedIf) take(v api.Value) { f.Wants = f.Has && meets(v, f.Needle) }

func (f *summedIf) pair(v api.Value) {
	f.endAt(v)
	if v.Kind == api.Number {
		f.add(v.Num, true)
	}
}

// lookedUp is LOOKUP.
type lookedUp struct{ seeks }

func (f *lookedUp) take(v api.Value) { f.Wants = f.Has && value.Same(f.Needle, v) }

func (f *lookedUp) pair(v api.Value) { f.end(v) }

func (f *lookedUp) result() api.Value { return value.Fault(api.FaultNA) }

// summedPairs is SUMPRODUCT.
type summedPairs struct{ common }

func (f *summedPairs) fed(v api.Value) (api.Value, bool) { return v, false }

func (f *summedPairs) met(v api.Value) (api.Value, bool) {
	f.endAt(v)
	return v, v.Kind == api.Number
}

func (f *summedPairs) take(v api.Value) { f.Held, f.Wants = v.Num, true }

func (f *summedPairs) pair(v api.Value) {
	f.endAt(v)
	if v.Kind == api.Number {
		f.add(num.Mul(f.Held, v.Num))
	}
	f.Held = api.Num{}
}

// meets: does a cell meet a needle?
func meets(cell, needle api.Value) bool {
	if cell.Kind == api.Blank || cell.Kind == api.Fault {
		return false
	}
	sign, rest := parted(needle)
	if sign == "" {
		return value.Same(cell, needle)
	}
	v := value.Read(rest)
	switch sign {
	case "=":
		return value.Same(cell, v)
	case "<>":
		return !value.Same(cell, v)
	}
	return cell.Kind == v.Kind && says(sign, value.Cmp(cell, v))
}

// parted is a needle's sign, and what stands behind it; an empty sign: it has none.
func parted(needle api.Value) (string, string) {
	// The longer ones ahead of those that they begin with.
	for _, sign := range [...]string{"<=", ">=", "<>", "<", ">", "="} {
		if rest, ok := strings.CutPrefix(needle.Text, sign); ok {
			return sign, rest
		}
	}
	return "", ""
}

// says: is a sign of order true, where Cmp tells c?
func says(sign string, c int) bool {
	switch sign {
	case "<=":
		return c <= 0
	case ">=":
		return c >= 0
	case "<":
		return c < 0
	}
	return c > 0
}
