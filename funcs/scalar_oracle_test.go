package funcs

import (
	"math/big"
	"strings"

	"whittle/api"
	"whittle/value"
)

// scalars says as what each scalar but the five that tell Kinds takes its arguments (n: a number, t: a text, b: a truth, v: anything), and how many it can do without.
var scalars = map[string]struct {
	as   string
	less int
}{
	"ABS": {"n", 0}, "SIGN": {"n", 0}, "INT": {"n", 0}, "VALUE": {"n", 0}, "ROUND": {"nn", 1}, "MOD": {"nn", 0}, "QUOTIENT": {"nn", 0}, "POWER": {"vv", 0}, "NOT": {"b", 0}, "LEN": {"t", 0}, "UPPER": {"t", 0}, "LOWER": {"t", 0}, "TRIM": {"t", 0}, "LEFT": {"tn", 1}, "RIGHT": {"tn", 1}, "MID": {"tnn", 0}, "REPT": {"tn", 0}, "FIND": {"tt", 0},
}

// oracleArgs are a scalar's arguments in the oracle's hands.
type oracleArgs struct {
	nums  []*big.Rat
	texts []string
	truth bool
}

// oracle is what a scalar of a right number of arguments comes to, by fractions without a bound and byte by byte.
func oracle(name string, args []api.Value) api.Value {
	vs := make([]api.Value, len(args))
	for i, v := range args {
		if vs[i] = v; !value.Right(v) {
			vs[i] = valued
		}
	}
	switch name {
	case "NA":
		return none
	case "ISNUMBER":
		return is(vs[0].Kind == api.Number)
	case "ISTEXT":
		return is(vs[0].Kind == api.Text)
	case "ISBLANK":
		return is(vs[0].Kind == api.Blank)
	case "ISERROR":
		return is(vs[0].Kind == api.Fault)
	}
	for _, v := range vs {
		if v.Kind == api.Fault {
			return v
		}
	}
	var a oracleArgs
	for i, v := range vs {
		switch scalars[name].as[i] {
		case 'n':
			x, fault := value.AsNumber(v)
			if fault != blank {
				return fault
			}
			a.nums = append(a.nums, big.NewRat(int64(x.N), int64(x.D)))
		case 't':
			s, _ := value.AsText(v)
			a.texts = append(a.texts, s)
		case 'b':
			b, fault := value.AsTruth(v)
			if fault != blank {
				return fault
			}
			a.truth = b
		}
	}
	switch name {
	case "POWER":
		return value.Bin(api.OpPow, vs[0], vs[1])
	case "NOT":
		return is(!a.truth)
	}
	if scalars[name].as[0] == 'n' {
		return oracleOfNumbers(name, a.nums)
	}
	return oracleOfTexts(name, a)
}

// ratValue is a fraction as a value, if it fits.
func ratValue(r *big.Rat) api.Value {
	if new(big.Int).Abs(r.Num()).Cmp(big.NewInt(top)) > 0 || r.Denom().Cmp(big.NewInt(bottom)) > 0 {
		return unfit
	}
	return q(int(r.Num().Int64()), int(r.Denom().Int64()))
}

// floor is the greatest whole number not above r.
func floor(r *big.Rat) *big.Rat {
	// Div of big.Int rounds towards minus infinity, for divisors above 0.
	return new(big.Rat).SetInt(new(big.Int).Div(r.Num(), r.Denom()))
}

// roundedRat is the multiple of 10^-places nearest to r, of two the one further from 0.
func roundedRat(r *big.Rat, places int64) *big.Rat {
	unit := new(big.Rat).SetInt(new(big.Int).Exp(big.NewInt(10), big.NewInt(max(places, -places)), nil))
	if places > 0 {
		unit.Inv(unit)
	}
	up := new(big.Rat).Quo(new(big.Rat).Abs(r), unit)
	up = floor(up.Add(up, big.NewRat(1, 2)))
	if r.Sign() < 0 {
		up.Neg(up)
	}
	return up.Mul(up, unit)
}

func oracleOfNumbers(name string, l []*big.Rat) api.Value {
	x := l[0]
	switch name {
	case "VALUE":
		return ratValue(x)
	case "ABS":
		return ratValue(new(big.Rat).Abs(x))
	case "SIGN":
		return n(x.Sign())
	case "INT":
		return ratValue(floor(x))
	case "ROUND":
		places := new(big.Rat)
		if len(l) == 2 {
			places = l[1]
		}
		switch {
		case !places.IsInt():
			return wrong
		case places.Cmp(big.NewRat(-12, 1)) < 0 || places.Cmp(big.NewRat(6, 1)) > 0:
			return unfit
		}
		return ratValue(roundedRat(x, places.Num().Int64()))
	}
	y := l[1]
	if y.Sign() == 0 {
		return divide
	}
	times := floor(new(big.Rat).Quo(x, y))
	if name == "QUOTIENT" {
		return ratValue(times)
	}
	return ratValue(new(big.Rat).Sub(x, times.Mul(times, y)))
}

func oracleOfTexts(name string, a oracleArgs) api.Value {
	s := a.texts[0]
	switch name {
	case "LEN":
		return n(len(s))
	case "UPPER", "LOWER", "TRIM":
		return txt(rewritten(name, s))
	case "FIND":
		for i := 0; i+len(s) <= len(a.texts[1]); i++ {
			if a.texts[1][i:i+len(s)] == s {
				return n(i + 1)
			}
		}
		return none
	}
	for i, x := range a.nums {
		if !x.IsInt() || x.Sign() < 0 || name == "MID" && i == 0 && x.Sign() == 0 {
			return wrong
		}
	}
	if len(a.nums) == 0 {
		a.nums = append(a.nums, big.NewRat(1, 1))
	}
	k := a.nums[0].Num().Int64()
	var b strings.Builder
	switch name {
	case "REPT":
		if int64(len(s))*k > 256 {
			return long
		}
		for i := int64(0); i < k && s != ""; i++ {
			b.WriteString(s)
		}
		return txt(b.String())
	case "MID":
		many := a.nums[1].Num().Int64()
		for i := range s {
			if at := int64(i + 1); at >= k && at-k < many {
				b.WriteByte(s[i])
			}
		}
		return txt(b.String())
	}
	for i := range s {
		if name == "LEFT" && int64(i) < k || name == "RIGHT" && int64(len(s)-i) <= k {
			b.WriteByte(s[i])
		}
	}
	return txt(b.String())
}

func rewritten(name, s string) string {
	var b strings.Builder
	for i := range len(s) {
		c := s[i]
		switch {
		case name == "UPPER" && c >= 'a' && c <= 'z':
			c -= 'a' - 'A'
		case name == "LOWER" && c >= 'A' && c <= 'Z':
			c += 'a' - 'A'
		case name == "TRIM" && c == ' ':
			// A blank stays, if something stands ahead of it, and something else than a blank right behind it.
			if b.Len() == 0 || i+1 == len(s) || s[i+1] == ' ' {
				continue
			}
		}
		b.WriteByte(c)
	}
	return b.String()
}
