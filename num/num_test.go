package num

import (
	"math"
	"slices"
	"testing"

	"whittle/api"
)

const (
	top    = 1000000000000 // 10^12
	bottom = 1000000       // 10^6
)

var none = api.Num{}

func of(n, d int) api.Num { return api.Num{N: n, D: d} }

// answer is what a call that may fail comes to.
type answer struct {
	a  api.Num
	ok bool
}

var no = answer{}

func yes(n, d int) answer           { return answer{of(n, d), true} }
func got(a api.Num, ok bool) answer { return answer{a, ok} }

// same fails, unless an answer is the one that is asked for.
func same(t *testing.T, g, w answer, what ...any) {
	t.Helper()
	if g != w {
		t.Fatal(append(what, "answers", g, "not", w)...)
	}
}

// wrongNums are none of them right.
var wrongNums = []api.Num{
	{}, {N: 1}, {N: 0, D: 2}, {N: 6, D: 4}, {N: -6, D: 4}, {N: 1, D: -2}, {N: -1, D: -2}, {N: 0, D: -1},
	{N: top + 1, D: 1}, {N: -top - 1, D: 1}, {N: 1, D: bottom + 1}, {N: top, D: bottom}, {N: 999999, D: 3},
	{N: math.MinInt, D: 1}, {N: math.MaxInt, D: 1}, {N: 1, D: math.MinInt}, {N: 1, D: math.MaxInt},
	{N: math.MinInt, D: math.MinInt}, {N: math.MaxInt, D: math.MaxInt}, {N: math.MinInt, D: bottom}, {N: 5, D: 5},
}

// rightNums are right, all of them; the edges are among them.
var rightNums = []api.Num{
	{N: 0, D: 1}, {N: 1, D: 1}, {N: -1, D: 1}, {N: 2, D: 1}, {N: -2, D: 1}, {N: 3, D: 1}, {N: -7, D: 1}, {N: 10, D: 1},
	{N: 1, D: 2}, {N: -1, D: 2}, {N: 3, D: 2}, {N: -5, D: 2}, {N: 1, D: 3}, {N: -2, D: 3}, {N: 22, D: 7}, {N: -9, D: 8},
	{N: 1, D: 10}, {N: 5, D: 4}, {N: -1, D: 64}, {N: 12346, D: 15625}, {N: 999999, D: 1}, {N: bottom, D: 1}, {N: -bottom, D: 1},
	{N: top, D: 1}, {N: -top, D: 1}, {N: top - 1, D: 1}, {N: 1 - top, D: 1}, {N: top / 2, D: 1},
	{N: 1, D: bottom}, {N: -1, D: bottom}, {N: 1, D: bottom - 1}, {N: 1, D: 999983}, {N: -1, D: 999979},
	{N: top - 1, D: bottom}, {N: 1 - top, D: bottom}, {N: top, D: 999999}, {N: -top, D: 999999}, {N: top, D: 7}, {N: -top, D: 3},
	{N: top - 1, D: 2}, {N: 1 - top, D: 2}, {N: 499999999999, D: 1}, {N: 500000000000 - 1, D: 2}, {N: 999983, D: 1000}, {N: 1000, D: 999983},
	// Products of these come back to 0, or near it, where 64 bits wrap round.
	{N: 1 << 32, D: 1}, {N: -1 << 32, D: 1}, {N: 1 << 39, D: 1}, {N: 1 << 39, D: 3}, {N: 1 << 25, D: 1}, {N: 1<<32 + 1, D: 1}, {N: 1<<32 - 1, D: 1},
}

// Promise 1.1.
func TestRight(t *testing.T) {
	for _, a := range rightNums {
		if !Right(a) {
			t.Fatal(a, "is right")
		}
	}
	for _, a := range wrongNums {
		if Right(a) {
			t.Fatal(a, "is not right")
		}
	}
}

// Promise 1.1: what is not right counts as 0, in every call.
func TestWrongCountsAsZero(t *testing.T) {
	zero := of(0, 1)
	for _, w := range wrongNums {
		for _, a := range append(slices.Clone(rightNums), wrongNums...) {
			for name, call := range pairs() {
				same(t, got(call(w, a)), got(call(zero, a)), name+" of a wrong one ahead", w, a)
				same(t, got(call(a, w)), got(call(a, zero)), name+" of a wrong one behind", a, w)
			}
			if Cmp(w, a) != Cmp(zero, a) || Cmp(a, w) != Cmp(a, zero) {
				t.Fatal("Cmp", w, a)
			}
			same(t, got(Sum(a, w)), got(Sum(a, zero)), "Sum", a, w)
		}
		for _, k := range []int{math.MinInt, -13, -1, 0, 1, 6, 7, math.MaxInt} {
			same(t, got(Pow(w, k)), got(Pow(zero, k)), "Pow", w, k)
			same(t, got(Round(w, k)), got(Round(zero, k)), "Round", w, k)
		}
		if n, ok := Whole(w); n != 0 || !ok {
			t.Fatal("Whole", w, n, ok)
		}
		if Neg(w) != zero || Abs(w) != zero || Floor(w) != zero || Text(w) != "0" {
			t.Fatal("Neg, Abs, Floor or Text of", w)
		}
	}
}

// pairs are the calls of two numbers.
func pairs() map[string]func(a, b api.Num) (api.Num, bool) {
	return map[string]func(a, b api.Num) (api.Num, bool){"Add": Add, "Sub": Sub, "Mul": Mul, "Div": Div, "Mod": Mod}
}

// Promises 1.2 and 1.3: the edges of Make.
func TestMake(t *testing.T) {
	for _, x := range []struct {
		n, d int
		want answer
	}{
		{6, 4, yes(3, 2)}, {-6, 4, yes(-3, 2)}, {6, -4, yes(-3, 2)}, {-6, -4, yes(3, 2)},
		{0, 1, yes(0, 1)}, {0, -1, yes(0, 1)}, {0, math.MaxInt, yes(0, 1)}, {0, math.MinInt, yes(0, 1)},
		{0, 0, no}, {1, 0, no}, {math.MinInt, 0, no}, {math.MaxInt, 0, no},
		{top, 1, yes(top, 1)}, {-top, 1, yes(-top, 1)}, {top + 1, 1, no}, {-top - 1, 1, no}, {top + 1, -1, no},
		{1, bottom, yes(1, bottom)}, {1, -bottom, yes(-1, bottom)}, {1, bottom + 1, no}, {1, -bottom - 1, no},
		{2 * top, 2, yes(top, 1)}, {2*top + 2, 2, no}, {2, 2 * bottom, yes(1, bottom)}, {2, 2*bottom + 2, no}, {5, 2*bottom + 1, no},
		{top - 1, bottom, yes(top-1, bottom)}, {top, bottom, yes(bottom, 1)}, {top + 1, bottom, no},
		{math.MinInt, math.MinInt, yes(1, 1)}, {math.MaxInt, math.MaxInt, yes(1, 1)}, {-math.MaxInt, math.MaxInt, yes(-1, 1)},
		{math.MinInt, 1, no}, {math.MinInt, -1, no}, {1, math.MinInt, no}, {-1, math.MinInt, no}, {2, math.MinInt, no}, {math.MinInt, 2, no},
		{math.MinInt, math.MaxInt, no}, {math.MaxInt, math.MinInt, no}, {math.MaxInt, 1, no}, {1, math.MaxInt, no},
		{math.MinInt, 1 << 62, yes(-2, 1)}, {math.MinInt, -1 << 62, yes(2, 1)}, {1 << 62, math.MinInt, yes(-1, 2)}, {-1 << 62, math.MinInt, yes(1, 2)},
		{math.MinInt, 1 << 24, yes(-1<<39, 1)}, {math.MinInt, 1 << 23, no}, {1 << 44, math.MinInt, yes(-1, 1<<19)}, {1 << 43, math.MinInt, no}, {math.MinInt, 1<<24 + 1, no}, {math.MinInt, -1<<24 - 1, no}, {1<<44 + 1, math.MinInt, no}, {-1<<44 - 1, math.MinInt, no},
		{math.MinInt, 3 << 60, yes(-8, 3)}, {3 << 60, math.MinInt, yes(-3, 8)},
	} {
		same(t, got(Make(x.n, x.d)), x.want, "Make", x.n, x.d)
	}
}

// Promise 1.4: Pow at its ends.
func TestPow(t *testing.T) {
	for _, x := range []struct {
		a    api.Num
		k    int
		want answer
	}{
		{of(0, 1), 0, yes(1, 1)}, {of(0, 1), 1, yes(0, 1)}, {of(0, 1), math.MaxInt, yes(0, 1)}, {of(0, 1), -1, no}, {of(0, 1), math.MinInt, no},
		{of(1, 1), math.MaxInt, yes(1, 1)}, {of(1, 1), math.MinInt, yes(1, 1)}, {of(1, 1), 0, yes(1, 1)}, {of(1, 1), -1, yes(1, 1)},
		{of(-1, 1), math.MaxInt, yes(-1, 1)}, {of(-1, 1), math.MinInt, yes(1, 1)}, {of(-1, 1), -math.MaxInt, yes(-1, 1)}, {of(-1, 1), 0, yes(1, 1)}, {of(-1, 1), -1, yes(-1, 1)}, {of(-1, 1), 2, yes(1, 1)}, {of(-1, 1), math.MaxInt - 1, yes(1, 1)},
		{of(2, 1), 39, yes(1<<39, 1)}, {of(2, 1), 40, no}, {of(-2, 1), 39, yes(-1<<39, 1)}, {of(-2, 1), 38, yes(1<<38, 1)}, {of(2, 1), math.MaxInt, no}, {of(2, 1), math.MinInt, no},
		{of(2, 1), -19, yes(1, 1<<19)}, {of(2, 1), -20, no}, {of(-2, 1), -19, yes(-1, 1<<19)},
		{of(1, 2), 19, yes(1, 1<<19)}, {of(1, 2), 20, no}, {of(1, 2), -39, yes(1<<39, 1)}, {of(1, 2), -40, no}, {of(-1, 2), -39, yes(-1<<39, 1)}, {of(1, 2), math.MinInt, no},
		{of(10, 1), 12, yes(top, 1)}, {of(-10, 1), 12, yes(top, 1)}, {of(10, 1), 13, no}, {of(10, 1), -6, yes(1, bottom)}, {of(10, 1), -7, no},
		{of(top, 1), 1, yes(top, 1)}, {of(top, 1), 2, no}, {of(1<<32, 1), 2, no}, {of(-1<<32, 1), 3, no}, {of(1<<16, 1), 4, no}, {of(1<<16, 1), -4, no}, {of(top, 1), -1, no}, {of(-top, 1), 0, yes(1, 1)},
		{of(bottom, 1), -1, yes(1, bottom)}, {of(bottom, 1), 2, yes(top, 1)}, {of(bottom+1, 1), -1, no}, {of(bottom+1, 1), 2, no},
		{of(1, bottom), -1, yes(bottom, 1)}, {of(1, bottom), -2, yes(top, 1)}, {of(-1, bottom), -1, yes(-bottom, 1)}, {of(-1, bottom), -2, yes(top, 1)}, {of(1, bottom), -3, no}, {of(1, bottom), 2, no},
		{of(1000, 999), 2, yes(bottom, 998001)}, {of(1000, 999), 3, no}, {of(999, 1000), -2, yes(bottom, 998001)}, {of(-3, 2), 3, yes(-27, 8)}, {of(-3, 2), -3, yes(-8, 27)}, {of(top, 999999), -1, no},
	} {
		same(t, got(Pow(x.a, x.k)), x.want, "Pow", x.a, x.k)
	}
}

// Promise 1.5: number by number, and no further than the first that doesn't fit.
func TestSum(t *testing.T) {
	for _, x := range []struct {
		list []api.Num
		want answer
	}{
		{nil, yes(0, 1)}, {[]api.Num{}, yes(0, 1)}, {[]api.Num{of(-3, 2)}, yes(-3, 2)}, {[]api.Num{of(1, 2), of(1, 3), of(1, 6)}, yes(1, 1)},
		{[]api.Num{of(top, 1), of(-1, 1), of(1, 1)}, yes(top, 1)}, {[]api.Num{of(top, 1), of(1, 1), of(-1, 1)}, no}, {[]api.Num{of(-top, 1), of(-1, 1), of(1, 1)}, no},
		{[]api.Num{of(1, 999983), of(1, 999979), of(-1, 999979)}, no}, {[]api.Num{of(1, 999983), of(-1, 999983), of(1, 999979)}, yes(1, 999979)},
		{[]api.Num{of(6, 4), of(2, 1), none}, yes(2, 1)},
	} {
		kept := slices.Clone(x.list)
		same(t, got(Sum(x.list...)), x.want, "Sum", x.list)
		if !slices.Equal(kept, x.list) {
			t.Fatal("R3: Sum has changed its list", kept, x.list)
		}
	}
}

// Promise 1.6.
func TestParts(t *testing.T) {
	for _, x := range []struct{ a, neg, abs, floor api.Num }{
		{of(0, 1), of(0, 1), of(0, 1), of(0, 1)}, {of(7, 2), of(-7, 2), of(7, 2), of(3, 1)}, {of(-7, 2), of(7, 2), of(7, 2), of(-4, 1)},
		{of(-1, 2), of(1, 2), of(1, 2), of(-1, 1)}, {of(1, 2), of(-1, 2), of(1, 2), of(0, 1)}, {of(-4, 1), of(4, 1), of(4, 1), of(-4, 1)}, {of(4, 1), of(-4, 1), of(4, 1), of(4, 1)},
		{of(top, 1), of(-top, 1), of(top, 1), of(top, 1)}, {of(-top, 1), of(top, 1), of(top, 1), of(-top, 1)}, {of(-1, bottom), of(1, bottom), of(1, bottom), of(-1, 1)},
		{of(-top, 3), of(top, 3), of(top, 3), of(-333333333334, 1)}, {of(top, 3), of(-top, 3), of(top, 3), of(333333333333, 1)},
	} {
		if Neg(x.a) != x.neg || Abs(x.a) != x.abs || Floor(x.a) != x.floor {
			t.Fatal("of", x.a, ":", Neg(x.a), Abs(x.a), Floor(x.a))
		}
	}
	for _, x := range []struct {
		a  api.Num
		n  int
		ok bool
	}{{of(0, 1), 0, true}, {of(-5, 1), -5, true}, {of(top, 1), top, true}, {of(-top, 1), -top, true}, {of(5, 2), 0, false}, {of(1, bottom), 0, false}} {
		if n, ok := Whole(x.a); n != x.n || ok != x.ok {
			t.Fatal("Whole of", x.a, ":", n, ok)
		}
	}
}

// Promise 1.7.
func TestRound(t *testing.T) {
	for _, x := range []struct {
		a      api.Num
		places int
		want   answer
	}{
		{of(1, 1), -13, no}, {of(1, 1), 7, no}, {of(1, 1), math.MinInt, no}, {of(1, 1), math.MaxInt, no}, {of(0, 1), 7, no}, {of(0, 1), -12, yes(0, 1)}, {of(0, 1), 6, yes(0, 1)},
		{of(1, 2), 0, yes(1, 1)}, {of(-1, 2), 0, yes(-1, 1)}, {of(3, 2), 0, yes(2, 1)}, {of(-3, 2), 0, yes(-2, 1)}, {of(49, 100), 0, yes(0, 1)}, {of(-49, 100), 0, yes(0, 1)}, {of(51, 100), 0, yes(1, 1)}, {of(2, 3), 0, yes(1, 1)}, {of(1, 3), 0, yes(0, 1)},
		{of(1, 3), 6, yes(333333, bottom)}, {of(2, 3), 6, yes(666667, bottom)}, {of(-2, 3), 6, yes(-666667, bottom)}, {of(1, 8), 2, yes(13, 100)}, {of(-1, 8), 2, yes(-13, 100)}, {of(1, 8), 3, yes(1, 8)}, {of(1, 999983), 6, yes(1, bottom)},
		{of(top, 1), 6, yes(top, 1)}, {of(-top, 1), 6, yes(-top, 1)}, {of(top, 7), 6, no}, {of(top, 7), 1, no}, {of(top, 7), 0, yes(142857142857, 1)}, {of(bottom, 7), 6, yes(142857142857, bottom)}, {of(10*bottom, 7), 6, no},
		{of(top-1, 2), 0, yes(top/2, 1)}, {of(1-top, 2), 0, yes(-top/2, 1)},
		{of(1249, 1), -2, yes(1200, 1)}, {of(1250, 1), -2, yes(1300, 1)}, {of(-1250, 1), -2, yes(-1300, 1)}, {of(2499, 2), -2, yes(1200, 1)}, {of(5, 1), -1, yes(10, 1)}, {of(9, 2), -1, yes(0, 1)}, {of(-5, 1), -1, yes(-10, 1)},
		{of(top/2, 1), -12, yes(top, 1)}, {of(-top/2, 1), -12, yes(-top, 1)}, {of(top/2-1, 1), -12, yes(0, 1)}, {of(top-1, 2), -12, yes(0, 1)}, {of(top, 1), -12, yes(top, 1)}, {of(top-1, bottom), -12, yes(0, 1)}, {of(-top, 1), -12, yes(-top, 1)},
	} {
		same(t, got(Round(x.a, x.places)), x.want, "Round", x.a, x.places)
	}
}
