package funcs

import (
	"math/big"
	"strings"

	"whittle/api"
	"whittle/num"
	"whittle/value"
)

// step is something done to a fold: F: Feed, C: Cell, P: Pair.
type step struct {
	how byte
	v   api.Value
}

// do does it.
func (x step) do(a *Acc) {
	switch x.how {
	case 'F':
		a.Feed(x.v)
	case 'C':
		a.Cell(x.v)
	default:
		a.Pair(x.v)
	}
}

// model is where a fold stands, gone on with by the chapter's words alone: one function for all of them, with fractions without a bound.
type model struct{ api.Acc }

// accs are the folds and searches that Open takes.
func accs() []int {
	return []int{api.FnSum, api.FnProduct, api.FnCount, api.FnCountA, api.FnMin, api.FnMax, api.FnAverage, api.FnAnd, api.FnOr, api.FnXor, api.FnConcat, api.FnSumSq, api.FnGcd, api.FnFirst, api.FnLast, api.FnMatch, api.FnCountIf, api.FnSumIf, api.FnLookup, api.FnSumProduct}
}

// begun is where a fold begins.
func begun(id int) api.Acc {
	switch id {
	case api.FnProduct:
		return api.Acc{Fn: id, Num: api.Num{N: 1, D: 1}}
	case api.FnConcat:
		return api.Acc{Fn: id, Num: zeroNum, V: txt("")}
	}
	return api.Acc{Fn: id, Num: zeroNum}
}

func (m *model) do(x step) {
	v := x.v
	if !value.Right(v) {
		v = valued
	}
	switch {
	case m.Full:
	case x.how == 'P':
		if m.Wants {
			m.Wants = false
			m.partner(v)
			m.Held = api.Num{}
		}
	case m.Wants:
	case m.Fn >= api.FnMatch:
		m.search(x.how, v)
	case v.Kind != api.Blank:
		m.fold(x.how, v)
	}
}

func (m *model) end(v api.Value) { m.Full, m.V = true, v }

// fits makes v the number, or ends it with v, if it is a fault.
func (m *model) fits(v api.Value) bool {
	if v.Kind == api.Fault {
		m.end(v)
		return false
	}
	m.Num = v.Num
	return true
}

func rat(a api.Num) *big.Rat { return big.NewRat(int64(a.N), int64(a.D)) }

// plus is a + b, if b and the sum fit.
func plus(a api.Num, b api.Value) api.Value {
	if b.Kind == api.Fault {
		return b
	}
	return ratValue(new(big.Rat).Add(rat(a), rat(b.Num)))
}

func times(a, b api.Num) api.Value { return ratValue(new(big.Rat).Mul(rat(a), rat(b))) }

func (m *model) fold(how byte, v api.Value) {
	switch m.Fn {
	case api.FnSum, api.FnProduct, api.FnMin, api.FnMax, api.FnAverage, api.FnSumSq, api.FnGcd:
		x, fault := value.AsNumber(v)
		if how == 'C' && (v.Kind == api.Text || v.Kind == api.Truth) {
			return
		}
		if fault != blank {
			m.end(fault)
			return
		}
		m.number(x)
	case api.FnAnd, api.FnOr, api.FnXor:
		b, fault := value.AsTruth(v)
		if how == 'C' && v.Kind == api.Text {
			return
		}
		switch {
		case fault != blank:
			m.end(fault)
		case m.Fn == api.FnAnd && !b, m.Fn == api.FnOr && b:
			m.end(is(b))
		case m.Fn == api.FnXor && b:
			m.Count++
		}
	case api.FnCount:
		if _, fault := value.AsNumber(v); fault == blank && (how == 'F' || v.Kind == api.Number) {
			m.Count++
		}
	case api.FnCountA:
		m.Count++
	case api.FnConcat:
		m.V = value.Bin(api.OpJoin, m.V, v)
		m.Full = m.V.Kind == api.Fault
	case api.FnFirst:
		m.end(v)
	case api.FnLast:
		m.V = v
	}
}

func (m *model) number(x api.Num) {
	switch m.Fn {
	case api.FnSum:
		m.fits(plus(m.Num, value.Number(x)))
	case api.FnSumSq:
		m.fits(plus(m.Num, times(x, x)))
	case api.FnAverage:
		if m.fits(plus(m.Num, value.Number(x))) {
			m.Count++
		}
	case api.FnProduct:
		m.fits(times(m.Num, x))
	case api.FnMin, api.FnMax:
		c := rat(m.Num).Cmp(rat(x))
		if !(m.Has && (c == 0 || c < 0 && m.Fn == api.FnMin || c > 0 && m.Fn == api.FnMax)) {
			m.Num = x
		}
		m.Has = true
	case api.FnGcd:
		if x.D != 1 {
			m.end(wrong)
			return
		}
		g := new(big.Int).GCD(nil, nil, big.NewInt(int64(m.Num.N)), new(big.Int).Abs(big.NewInt(int64(x.N))))
		m.Num.N = int(g.Int64())
	}
}

func (m *model) search(how byte, v api.Value) {
	switch {
	case how == 'F' && (m.Fn == api.FnSumProduct || m.Has):
	case how == 'F':
		m.Needle, m.Has = v, true
		if v.Kind == api.Fault {
			m.end(v)
		}
	case m.Fn == api.FnMatch:
		m.Count++
		if m.Has && value.Same(m.Needle, v) {
			m.end(ratValue(big.NewRat(int64(m.Count), 1)))
		}
	case m.Fn == api.FnCountIf && m.Has && met(v, m.Needle):
		m.Count++
	case m.Fn == api.FnSumIf && m.Has && met(v, m.Needle), m.Fn == api.FnLookup && m.Has && value.Same(m.Needle, v):
		m.Wants = true
	case m.Fn == api.FnSumProduct && v.Kind == api.Number:
		m.Held, m.Wants = v.Num, true
	case m.Fn == api.FnSumProduct && v.Kind == api.Fault:
		m.end(v)
	}
}

func (m *model) partner(v api.Value) {
	switch {
	case m.Fn == api.FnLookup, v.Kind == api.Fault:
		m.end(v)
	case v.Kind != api.Number:
	case m.Fn == api.FnSumIf:
		m.fits(plus(m.Num, v))
	default:
		m.fits(plus(m.Num, times(m.Held, v.Num)))
	}
}

// met is 'meets' by the operations of layer 2.
func met(cell, needle api.Value) bool {
	if cell.Kind == api.Blank || cell.Kind == api.Fault {
		return false
	}
	s := needle.Text
	behind := func(sign string) api.Value { return value.Read(s[len(sign):]) }
	order := func(sign string, op int) bool {
		v := behind(sign)
		return v.Kind == cell.Kind && value.Bin(op, cell, v).True
	}
	switch {
	case needle.Kind != api.Text:
	case strings.HasPrefix(s, "<="):
		return order("<=", api.OpLe)
	case strings.HasPrefix(s, ">="):
		return order(">=", api.OpGe)
	case strings.HasPrefix(s, "<>"):
		return cell != behind("<>")
	case strings.HasPrefix(s, "<"):
		return order("<", api.OpLt)
	case strings.HasPrefix(s, ">"):
		return order(">", api.OpGt)
	case strings.HasPrefix(s, "="):
		return cell == behind("=")
	}
	return cell == needle
}

// result is 7.7.
func (m *model) result() api.Value {
	if m.Full {
		return m.V
	}
	count := ratValue(big.NewRat(int64(m.Count), 1))
	switch m.Fn {
	case api.FnCount, api.FnCountA, api.FnCountIf:
		return count
	case api.FnAverage:
		switch {
		case m.Count == 0:
			return divide
		case count == unfit:
			return unfit
		}
		return ratValue(new(big.Rat).Quo(rat(m.Num), rat(count.Num)))
	case api.FnAnd:
		return is(true)
	case api.FnOr:
		return is(false)
	case api.FnXor:
		return is(m.Count&1 == 1)
	case api.FnConcat, api.FnFirst, api.FnLast:
		return m.V
	case api.FnMatch, api.FnLookup:
		return none
	}
	return value.Number(m.Num)
}

// sound is 7.8: may a fold stand there?
func sound(s api.Acc) bool {
	known, wants := false, s.Fn == api.FnSumIf || s.Fn == api.FnLookup || s.Fn == api.FnSumProduct
	for _, id := range accs() {
		known = known || id == s.Fn
	}
	held := s.Held == api.Num{}
	if s.Fn == api.FnSumProduct && s.Wants {
		held = num.Right(s.Held)
	}
	return known && s.Count >= 0 && s.Count <= top && num.Right(s.Num) && value.Right(s.V) && value.Right(s.Needle) &&
		(s.Fn != api.FnGcd || s.Num.D == 1 && s.Num.N >= 0) && (!s.Wants || wants && !s.Full) && held
}
