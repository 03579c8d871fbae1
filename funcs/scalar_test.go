package funcs

import (
	"math"
	"slices"
	"testing"

	"whittle/api"
	"whittle/value"
)

// some are right values of every Kind: small ones, those at the edges, and texts that are numbers, truths, signs.
func some() []api.Value {
	every := make([]byte, 0, 95)
	for c := byte(32); c <= 126; c++ {
		every = append(every, c)
	}
	return []api.Value{
		blank, n(0), n(1), n(2), n(3), n(-1), n(-7), n(6), n(7), n(-12), n(-13), n(128), n(256), n(257), q(1, 2), q(-1, 2), q(5, 2), q(-5, 2), q(7, 3), q(1, 999983), q(-1, 999979), q(1, bottom), q(-1, bottom), q(top-1, bottom-1), n(top), n(-top), q(999999999999, 2), q(999999999999, 1000),
		is(true), is(false), txt(""), txt(" "), txt("a"), txt("ab"), txt(" a  b "), txt("bab"), txt("aB-zZ@[`{"), txt("0"), txt("2"), txt("-3"), txt("1/2"), txt("1/4"), txt("TRUE"), txt("FALSE"), txt("true"), txt(" 1"), txt(xs(256)), txt(string(every)), divide, none, wrong,
	}
}

// applies asks for one answer.
func applies(t *testing.T, name string, want api.Value, args ...api.Value) {
	t.Helper()
	if got := Apply(numbered[name], args...); got != want {
		t.Fatalf("%s(%s) = %s, want %s", name, tellAll(args), told(got), told(want))
	}
}

// rows are all rows of so many of the values.
func rows(vs []api.Value, many int) func(yield func([]api.Value) bool) {
	return func(yield func([]api.Value) bool) {
		at := make([]int, many)
		row := make([]api.Value, many)
		for {
			for i, k := range at {
				row[i] = vs[k]
			}
			if !yield(row) {
				return
			}
			i := many - 1
			for ; i >= 0 && at[i] == len(vs)-1; i-- {
				at[i] = 0
			}
			if i < 0 {
				return
			}
			at[i]++
		}
	}
}

func TestApplyOracle(t *testing.T) { // Promise 7.2: each scalar of all values, in all rows of as many as it takes.
	vs := append(some(), q(2, 4), txt("\x1f"))
	for _, s := range sigs() {
		if s.Class != api.ClassScalar {
			continue
		}
		for many := s.Least; many <= s.Most; many++ {
			for args := range rows(vs, many) {
				got := Apply(s.Id, args...)
				if want := oracle(s.Name, args); got != want {
					t.Fatalf("%s(%s) = %s, want %s", s.Name, tellAll(args), told(got), told(want))
				}
				if !value.Right(got) {
					t.Fatalf("%s(%s) is not right", s.Name, tellAll(args))
				}
			}
		}
	}
}

func TestApplyArity(t *testing.T) { // Promise 7.2: too few, too many.
	for _, s := range sigs() {
		for many := 0; many <= 40; many++ {
			if s.Class == api.ClassScalar && many >= s.Least && many <= s.Most {
				continue
			}
			for _, v := range []api.Value{n(1), blank, txt("x"), none, q(2, 4)} {
				if got := Apply(s.Id, slices.Repeat([]api.Value{v}, many)...); got != valued {
					t.Fatalf("%s of %d times %s is %s", s.Name, many, told(v), told(got))
				}
			}
		}
	}
}

func TestApplyOfNoFunction(t *testing.T) { // Promise 7.2: ids that are no scalar's.
	for _, id := range []int{math.MinInt, -1, 0, 16, 19, 28, 29, 33, 39, 63, 64, 1<<32 + api.FnAbs, math.MaxInt} {
		for many := range 4 {
			if got := Apply(id, slices.Repeat([]api.Value{n(1)}, many)...); got != valued {
				t.Fatalf("Apply(%d) of %d ones is %s", id, many, told(got))
			}
		}
	}
}

func TestApplyUnright(t *testing.T) { // Promise 7.2: values that are not right count as #VALUE!, at every place.
	for _, v := range unright() {
		for _, name := range []string{"ISNUMBER", "ISTEXT", "ISBLANK"} {
			applies(t, name, is(false), v)
		}
		applies(t, "ISERROR", is(true), v)
		for name, s := range scalars {
			for at := range len(s.as) {
				args := slices.Repeat([]api.Value{n(1)}, len(s.as))
				args[at] = v
				applies(t, name, valued, args...)
			}
		}
		applies(t, "FIND", valued, v, none)
		applies(t, "FIND", none, none, v)
		applies(t, "POWER", valued, v, none)
		applies(t, "POWER", none, none, v)
	}
}

func TestApplyFirstFault(t *testing.T) { // Promise 7.2: faults that are handed in go ahead of those that come of taking; both from the left.
	applies(t, "MOD", none, txt("x"), none)
	applies(t, "MOD", lost, lost, none)
	applies(t, "MOD", none, n(1), none)
	applies(t, "ROUND", none, q(1, 2), none)
	applies(t, "MID", lost, txt("a"), lost, none)
	applies(t, "MID", none, txt("a"), txt("x"), none)
	applies(t, "MID", lost, lost, txt("x"), none)
	// What can't be taken, ahead of what is no number for it.
	applies(t, "MID", valued, txt("a"), q(1, 2), txt("x"))
	applies(t, "MID", valued, txt("a"), txt("x"), n(-1))
	applies(t, "ROUND", valued, txt("x"), q(1, 2))
	applies(t, "MOD", valued, txt("x"), n(0))
	applies(t, "QUOTIENT", valued, txt("x"), n(0))
	// What is no number for it, ahead of a text that would be too long.
	applies(t, "REPT", wrong, txt(xs(256)), q(5, 2))
	applies(t, "REPT", wrong, txt(xs(256)), n(-2))
}

func TestApplyEdges(t *testing.T) { // Promise 7.2: at the limits, and one past them.
	applies(t, "ABS", n(top), n(-top))
	applies(t, "ABS", q(1, bottom), q(-1, bottom))
	applies(t, "SIGN", n(-1), q(-1, bottom))
	applies(t, "SIGN", n(1), n(top))
	applies(t, "INT", n(-top), n(-top))
	applies(t, "INT", n(-1), q(-1, bottom))
	applies(t, "VALUE", n(top), txt("1000000000000"))
	applies(t, "VALUE", valued, txt("1000000000001"))
	applies(t, "VALUE", q(1, bottom), txt("1/1000000"))
	applies(t, "VALUE", valued, txt("1/1000001"))
	applies(t, "ROUND", n(top), q(999999999999, 1), n(-1))
	applies(t, "ROUND", n(0), n(499999999999), n(-12))
	applies(t, "ROUND", n(top), n(500000000000), n(-12))
	applies(t, "ROUND", unfit, n(1), n(-13))
	applies(t, "ROUND", q(1, bottom), q(1, bottom), n(6))
	applies(t, "ROUND", unfit, q(1, bottom), n(7))
	applies(t, "ROUND", unfit, n(0), n(top))
	applies(t, "ROUND", unfit, n(0), n(-top))
	applies(t, "MOD", unfit, q(1, 999979), q(1, 999983))
	applies(t, "MOD", q(bottom-1, bottom), q(-1, bottom), n(1))
	applies(t, "MOD", n(0), n(top), q(1, bottom))
	applies(t, "QUOTIENT", n(top), n(top), n(1))
	applies(t, "QUOTIENT", unfit, n(top), q(1, bottom))
	applies(t, "QUOTIENT", unfit, n(-top), q(999999, bottom))
	applies(t, "QUOTIENT", n(top), q(bottom, 1), q(1, bottom))
	applies(t, "QUOTIENT", unfit, q(bottom+1, 1), q(1, bottom))
	applies(t, "QUOTIENT", n(-1), q(1, bottom), n(-top))
	applies(t, "QUOTIENT", n(0), q(1, bottom), n(top))
	applies(t, "QUOTIENT", n(1), n(-top), n(-top))
	applies(t, "POWER", n(top), n(10), n(12))
	applies(t, "POWER", unfit, n(10), n(13))
	applies(t, "LEN", n(256), txt(xs(256)))
	applies(t, "REPT", txt(xs(256)), txt("x"), n(256))
	applies(t, "REPT", long, txt("x"), n(257))
	applies(t, "REPT", txt(xs(256)), txt(xs(128)), n(2))
	applies(t, "REPT", long, txt(xs(128)), n(3))
	applies(t, "REPT", long, txt(xs(256)), n(top))
	applies(t, "REPT", txt(""), txt(xs(256)), n(0))
	applies(t, "REPT", txt(""), txt(""), n(top))
	applies(t, "LEFT", txt(xs(256)), txt(xs(256)), n(top))
	applies(t, "RIGHT", txt(xs(255)), txt("a"+xs(255)), n(255))
	applies(t, "RIGHT", txt(xs(255)), txt(xs(255)), n(256))
	applies(t, "MID", txt("x"), txt(xs(255)+"x"), n(256), n(top))
	applies(t, "MID", txt(""), txt(xs(256)), n(257), n(1))
	applies(t, "MID", txt(""), txt(xs(256)), n(top), n(top))
	applies(t, "FIND", n(256), txt("y"), txt(xs(255)+"y"))
	applies(t, "FIND", n(1), txt(xs(256)), txt(xs(256)))
	applies(t, "FIND", none, txt(xs(256)), txt(xs(255)))
}

func TestApplyWithoutTheLast(t *testing.T) { // Promise 7.2: 0 places of ROUND, 1 byte of LEFT and RIGHT; a Blank is 0, where one is handed in.
	applies(t, "ROUND", n(3), q(5, 2))
	applies(t, "ROUND", n(-3), q(-5, 2))
	applies(t, "ROUND", n(3), q(5, 2), blank)
	applies(t, "LEFT", txt("a"), txt("abc"))
	applies(t, "LEFT", txt(""), txt("abc"), blank)
	applies(t, "LEFT", txt(""), txt(""))
	applies(t, "RIGHT", txt("c"), txt("abc"))
	applies(t, "RIGHT", txt(""), txt("abc"), blank)
	applies(t, "RIGHT", txt("E"), is(true))
}

func TestApplyKeepsItsArguments(t *testing.T) { // Rule R3: neither the list nor its spare room is written on.
	for _, s := range sigs() {
		for many := 0; many <= 4; many++ {
			list := []api.Value{q(2, 4), txt("7"), blank, {Kind: 9}, txt("spare"), n(5)}
			before := slices.Clone(list)
			Apply(s.Id, list[:many]...)
			if !slices.Equal(list, before) {
				t.Fatalf("%s of %d wrote on its arguments", s.Name, many)
			}
		}
	}
}
