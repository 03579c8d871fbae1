package funcs

import (
	"whittle/api"
	"whittle/num"
	"whittle/value"
)

// common is what all kinds have: where they stand, how they end, and what most of them come to.
type common struct{ api.Acc }

func (c *common) stand() *api.Acc { return &c.Acc }

// end ends it with v.
func (c *common) end(v api.Value) { c.Full, c.V = true, v }

// endAt ends it with v, if that is a fault.
func (c *common) endAt(v api.Value) {
	if v.Kind == api.Fault {
		c.end(v)
	}
}

// keep makes n its number, or ends it, if n doesn't fit; it tells which.
func (c *common) keep(n api.Num, fits bool) bool {
	if !fits {
		c.end(value.Fault(api.FaultNum))
		return false
	}
	c.Num = n
	return true
}

// add adds n to its number; what doesn't fit by itself ends it as well.
func (c *common) add(n api.Num, fits bool) bool {
	if fits {
		n, fits = num.Add(c.Num, n)
	}
	return c.keep(n, fits)
}

// pair: most kinds want no partners.
func (c *common) pair(api.Value) {}

func (c *common) result() api.Value { return value.Number(c.Num) }

// numbers are the folds that take numbers.
type numbers struct{ common }

func (f *numbers) fed(v api.Value) (api.Value, bool) {
	n, fault := value.AsNumber(v)
	f.endAt(fault)
	return value.Number(n), v.Kind != api.Blank && !f.Full
}

func (f *numbers) met(v api.Value) (api.Value, bool) {
	f.endAt(v)
	return v, v.Kind == api.Number
}

// truths are the folds that take truths.
type truths struct{ common }

func (f *truths) fed(v api.Value) (api.Value, bool) {
	b, fault := value.AsTruth(v)
	f.endAt(fault)
	return value.Truth(b), v.Kind != api.Blank && !f.Full
}

// met takes each cell as if it were fed, but for texts: none is a truth in a cell.
func (f *truths) met(v api.Value) (api.Value, bool) {
	if v.Kind == api.Text {
		return v, false
	}
	return f.fed(v)
}

// things are the folds that take whatever is not blank, and come to V.
type things struct{ common }

func (f *things) fed(v api.Value) (api.Value, bool) { return v, v.Kind != api.Blank }

func (f *things) met(v api.Value) (api.Value, bool) { return f.fed(v) }

func (f *things) result() api.Value { return f.V }

// seeks are the searches with a needle: the first value that is fed.
type seeks struct{ common }

func (f *seeks) fed(v api.Value) (api.Value, bool) {
	if !f.Has {
		f.Needle, f.Has = v, true
		f.endAt(v)
	}
	return v, false
}

// met takes blanks, too: MATCH counts them.
func (f *seeks) met(v api.Value) (api.Value, bool) { return v, true }
