package funcs

import (
	"whittle/api"
	"whittle/num"
	"whittle/value"
)

// taker is what each kind of folds and searches can do, by itself or by what it embeds. It is asked only while it is neither full nor, but for pair, waiting for a partner.
type taker interface {
	// stand is where it stands.
	stand() *api.Acc
	// fed and met are what a fed value, a cell, is taken as; false: it is not taken.
	fed(v api.Value) (api.Value, bool)
	met(v api.Value) (api.Value, bool)
	// take takes what fed or met tell.
	take(v api.Value)
	// pair takes the partner that was wanted.
	pair(v api.Value)
	// result is what it comes to, unless it has ended.
	result() api.Value
}

// Acc is a fold or a search under way.
type Acc struct{ taker }

// Open begins one.
func Open(id int) (*Acc, api.Errno) {
	a, ok := standing(beginning(id))
	if !ok {
		return nil, api.ErrArg
	}
	return a, api.OK
}

// Back goes on with one.
func Back(s api.Acc) (*Acc, api.Errno) {
	a, ok := standing(s)
	if !ok || !right(s) {
		return nil, api.ErrState
	}
	return a, api.OK
}

// Feed takes an argument that is a value.
func (a *Acc) Feed(v api.Value) {
	if a.Full() || a.Wants() {
		return
	}
	if x, ok := a.fed(counted(v)); ok {
		a.take(x)
	}
}

// Cell takes a cell of an area.
func (a *Acc) Cell(v api.Value) {
	if a.Full() || a.Wants() {
		return
	}
	if x, ok := a.met(counted(v)); ok {
		a.take(x)
	}
}

// Pair takes the partner that the last cell wants.
func (a *Acc) Pair(v api.Value) {
	if !a.Wants() {
		return
	}
	a.stand().Wants = false
	a.pair(counted(v))
}

// Full: nothing more is asked for.
func (a *Acc) Full() bool { return a.stand().Full }

// Wants: the partner of the last cell is asked for.
func (a *Acc) Wants() bool { return a.stand().Wants }

// Result is what it comes to.
func (a *Acc) Result() api.Value {
	if a.Full() {
		return a.stand().V
	}
	return a.result()
}

// State is where it stands, as plain data.
func (a *Acc) State() api.Acc { return *a.stand() }

// beginning is where a function's fold begins.
func beginning(id int) api.Acc {
	s := api.Acc{Fn: id, Num: api.Num{N: 0, D: 1}}
	switch id {
	case api.FnProduct:
		s.Num.N = 1
	case api.FnConcat:
		s.V = value.Text("")
	}
	return s
}

// standing is a fold that stands at s; false: s.Fn is neither a fold nor a search.
func standing(s api.Acc) (*Acc, bool) {
	kind, ok := kinds()[s.Fn]
	if !ok {
		return nil, false
	}
	return &Acc{kind(common{s})}, true
}

// right: can a fold of s.Fn stand there?
func right(s api.Acc) bool {
	pairs := s.Fn == api.FnSumIf || s.Fn == api.FnLookup || s.Fn == api.FnSumProduct
	switch {
	case s.Count < 0 || s.Count > api.MaxNum:
		return false
	case !num.Right(s.Num) || !value.Right(s.V) || !value.Right(s.Needle):
		return false
	case s.Fn == api.FnGcd && (s.Num.D != 1 || s.Num.N < 0):
		return false
	case s.Wants && (s.Full || !pairs):
		return false
	case s.Wants && s.Fn == api.FnSumProduct:
		return num.Right(s.Held)
	}
	return s.Held == api.Num{}
}

// kinds tells which kind each function is.
func kinds() map[int]func(common) taker {
	return map[int]func(common) taker{
		api.FnSum:     common.sum,
		api.FnProduct: common.product,
		api.FnCount:   common.count,
		api.FnCountA:  common.countA,
		api.FnMin:     common.least,
		api.FnMax:     common.greatest,
		api.FnAverage: common.average,
		api.FnAnd:     common.and,
		api.FnOr:      common.or,
		api.FnXor:     common.xor,
		api.FnConcat:  common.concat,
		api.FnSumSq:   common.squares,
		api.FnGcd:     common.divisor,
		api.FnFirst:   common.first,
		api.FnLast:    common.last,

		api.FnMatch:      common.match,
		api.FnCountIf:    common.countIf,
		api.FnSumIf:      common.sumIf,
		api.FnLookup:     common.lookup,
		api.FnSumProduct: common.sumProduct,
	}
}
