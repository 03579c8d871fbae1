// Package num: numbers that are exact: see DOC.md, chapter 1.
package num

import (
	"math"

	"whittle/api"
)

// mostFactors is how often a number other than 0, 1 and -1 can stand in a product with itself that fits: 2^40 is above MaxNum, and all else grows, or shrinks, sooner.
const mostFactors = 39

// Right: is it a number? (What is none counts as 0.)
func Right(a api.Num) bool {
	switch {
	case a.N < -api.MaxNum || a.N > api.MaxNum:
		return false
	case a.D < 1 || a.D > api.MaxDen:
		return false
	}
	return divisor(a.N, a.D) == 1
}

// Make is n / d; false: it doesn't fit.
func Make(n, d int) (api.Num, bool) {
	if n == math.MinInt || d == math.MinInt {
		// The least int has no negative. It is a power of 2: beside an odd number nothing can be taken out of it, and it is far too great; beside an even one both can be halved.
		if n%2 != 0 || d%2 != 0 {
			return api.Num{}, false
		}
		n, d = n/2, d/2
	}
	switch {
	case d == 0:
		return api.Num{}, false
	case d < 0:
		n, d = -n, -d
	}
	g := divisor(n, d)
	return fitting(n/g, d/g)
}

// Add is a + b; false: it doesn't fit.
func Add(a, b api.Num) (api.Num, bool) {
	x, y, d := alike(a, b)
	return Make(x+y, d)
}

// Sub is a - b; false: it doesn't fit.
func Sub(a, b api.Num) (api.Num, bool) {
	x, y, d := alike(a, b)
	return Make(x-y, d)
}

// Mul is a * b; false: it doesn't fit.
func Mul(a, b api.Num) (api.Num, bool) {
	a, b = counted(a), counted(b)
	// The product of both N's may leave int64; when all that can be has been taken out ahead, what still doesn't fit never will.
	g, h := divisor(a.N, b.D), divisor(b.N, a.D)
	n, ok := product(a.N/g, b.N/h, api.MaxNum)
	if !ok {
		return api.Num{}, false
	}
	return fitting(n, (a.D/h)*(b.D/g))
}

// Div is a / b; false: b is 0, or it doesn't fit.
func Div(a, b api.Num) (api.Num, bool) {
	x, y, _ := alike(a, b)
	return Make(x, y)
}

// Mod is what a leaves by b, on b's side of 0; false: b is 0, or it doesn't fit.
func Mod(a, b api.Num) (api.Num, bool) {
	x, y, d := alike(a, b)
	if y == 0 {
		return api.Num{}, false
	}
	rest := x % y
	if rest != 0 && (rest < 0) != (y < 0) {
		rest += y
	}
	return Make(rest, d)
}

// Pow is k times a as a product; false: a is 0 and k below 0, or it doesn't fit.
func Pow(a api.Num, k int) (api.Num, bool) {
	a = counted(a)
	switch {
	case k == 0:
		return api.Num{N: 1, D: 1}, true
	case a.N == 0:
		if k < 0 {
			return api.Num{}, false
		}
		return a, true
	case a.D == 1 && size(a.N) == 1:
		if k%2 == 0 {
			return Abs(a), true
		}
		return a, true
	case k < -mostFactors || k > mostFactors:
		return api.Num{}, false
	case k < 0:
		return powers(sign(a.N)*a.D, size(a.N), -k)
	}
	return powers(a.N, a.D, k)
}

// Sum adds them up, one behind the other.
func Sum(list ...api.Num) (api.Num, bool) {
	total, ok := api.Num{N: 0, D: 1}, true
	for _, a := range list {
		if total, ok = Add(total, a); !ok {
			return api.Num{}, false
		}
	}
	return total, true
}

// counted is what a number counts as: itself, or 0, if it is not right.
func counted(a api.Num) api.Num {
	if !Right(a) {
		return api.Num{N: 0, D: 1}
	}
	return a
}

// alike brings two numbers to one denominator: x / d and y / d. None of the three is above 10^18, so that x + y and x - y stay in int64.
func alike(a, b api.Num) (x, y, d int) {
	a, b = counted(a), counted(b)
	return a.N * b.D, b.N * a.D, a.D * b.D
}

// fitting is n / d of two numbers that have no divisor in common, d above 0.
func fitting(n, d int) (api.Num, bool) {
	if size(n) > api.MaxNum || d > api.MaxDen {
		return api.Num{}, false
	}
	return api.Num{N: n, D: d}, true
}

// powers is (n / d)^k: powers of two numbers without a common divisor have none either.
func powers(n, d, k int) (api.Num, bool) {
	top, ok := power(n, k, api.MaxNum)
	if !ok {
		return api.Num{}, false
	}
	bottom, ok := power(d, k, api.MaxDen)
	if !ok {
		return api.Num{}, false
	}
	return api.Num{N: top, D: bottom}, true
}

// power is p^k; false: its size is above most.
func power(p, k, most int) (int, bool) {
	result, ok := 1, true
	for range k {
		if result, ok = product(result, p, most); !ok {
			return 0, false
		}
	}
	return result, true
}

// product is p * q; false: its size is above most. It is asked by a division, since the product itself may leave int64.
func product(p, q, most int) (int, bool) {
	if q != 0 && size(p) > most/size(q) {
		return 0, false
	}
	return p * q, true
}

// divisor is the greatest whole number that divides both (of 0 and 0: 0); neither is the least int.
func divisor(a, b int) int {
	a, b = size(a), size(b)
	for b != 0 {
		a, b = b, a%b
	}
	return a
}

// size is a without its sign; a is not the least int.
func size(a int) int {
	if a < 0 {
		return -a
	}
	return a
}

// sign is -1, 0, 1.
func sign(a int) int {
	switch {
	case a < 0:
		return -1
	case a > 0:
		return 1
	}
	return 0
}
