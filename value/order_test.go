package value

import (
	"testing"

	"whittle/api"
)

// ladder are values that are neither Blank nor Faults, and then all Faults, each below the next.
func ladder() []api.Value {
	list := []api.Value{
		n(-top, 1), n(-1, 1), n(-1, 2), n(-1, bottom), n(0, 1), n(1, bottom), n(1, 3), n(1, 2), n(1, 1), n(2, 1), n(top, 1),
		txt(""), txt(" "), txt("-1"), txt("1"), txt("10"), txt("2"), txt("A"), txt("AB"), txt("B"), txt("TRUE"), txt("Z"), txt("a"), txt("abc"), txt("b"), txt(xs(255)), txt(xs(256)), txt("~"),
		is(false), is(true),
	}
	for code := api.FaultDiv; code <= api.FaultArg; code++ {
		list = append(list, bad(code))
	}
	return list
}

// Promises 2.6 and 2.7: all kinds but Blank.
func TestCmp(t *testing.T) {
	list := ladder()
	for i, a := range list {
		for k, b := range list {
			if got, want := Cmp(a, b), max(-1, min(1, i-k)); got != want {
				t.Fatal("Cmp of", a, b, "is", got)
			}
			if got, want := Same(a, b), i == k && a.Kind != api.Fault; got != want {
				t.Fatal("Same of", a, b, "is", got)
			}
		}
	}
}

// Promise 2.6: Blank against every kind, from both sides.
func TestCmpBlank(t *testing.T) {
	for _, x := range []struct {
		b    api.Value
		want int
	}{
		{blank, 0}, {n(0, 1), 0}, {n(1, bottom), -1}, {n(-1, bottom), 1}, {n(top, 1), -1}, {n(-top, 1), 1},
		{txt(""), 0}, {txt(" "), -1}, {txt("0"), -1}, {is(false), 0}, {is(true), -1},
		{bad(api.FaultDiv), -1}, {bad(api.FaultArg), -1}, {n(2, 4), -1}, {txt("\n"), -1},
	} {
		if got := Cmp(blank, x.b); got != x.want {
			t.Fatal("Cmp of Blank and", x.b, "is", got)
		}
		if got := Cmp(x.b, blank); got != -x.want {
			t.Fatal("Cmp of", x.b, "and Blank is", got)
		}
		if Same(blank, x.b) || Same(x.b, blank) {
			t.Fatal("Same of Blank and", x.b)
		}
	}
}

// Promise 2.7: what is the same needs one kind.
func TestSame(t *testing.T) {
	for _, v := range rights() {
		if Same(v, v) != (v.Kind != api.Blank && v.Kind != api.Fault) {
			t.Fatal("Same of itself", v)
		}
	}
	for _, x := range [][2]api.Value{{txt("1"), n(1, 1)}, {is(true), txt("TRUE")}, {is(true), n(1, 1)}, {is(false), n(0, 1)}, {txt("a"), txt("A")}, {txt("1"), txt("1.0")}, {none, txt("#N/A")}} {
		if Same(x[0], x[1]) || Same(x[1], x[0]) {
			t.Fatal("Same of", x)
		}
	}
}

// Promise 2.11: an order, and opposites.
func TestOrder(t *testing.T) {
	var list []api.Value
	for _, v := range rights() {
		if v.Kind != api.Fault && v.Kind != api.Blank {
			list = append(list, v)
		}
	}
	for _, a := range list {
		for _, b := range list {
			if Cmp(a, b) != -Cmp(b, a) || (Cmp(a, b) == 0) != (a == b) {
				t.Fatal("Cmp, turned", a, b)
			}
			for _, c := range list {
				if Cmp(a, b) <= 0 && Cmp(b, c) <= 0 && Cmp(a, c) > 0 {
					t.Fatal("Cmp is no order", a, b, c)
				}
			}
		}
	}
	for _, a := range append(list, blank) {
		for _, b := range append(list, blank) {
			for _, pair := range [][2]int{{api.OpEq, api.OpNe}, {api.OpLt, api.OpGe}, {api.OpGt, api.OpLe}} {
				first, second := Bin(pair[0], a, b), Bin(pair[1], a, b)
				if first.Kind != api.Truth || second.Kind != api.Truth || first.True == second.True {
					t.Fatal("no opposites", pair, a, b)
				}
			}
		}
	}
}
