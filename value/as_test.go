package value

import (
	"testing"

	"whittle/api"
)

// as3 is a value, and what it is as each kind; a fault, where it is none.
type as3 struct{ v, number, text, truth api.Value }

func (x as3) check(t *testing.T) {
	t.Helper()
	a, fault := AsNumber(x.v)
	if fault.Kind == api.Fault {
		same(t, fault, x.number, "AsNumber of", x.v)
		if a != (api.Num{}) {
			t.Fatal("AsNumber beside a fault", x.v, a)
		}
	} else {
		same(t, fault, blank, "AsNumber's second of", x.v)
		same(t, n(a.N, a.D), x.number, "AsNumber of", x.v)
	}
	s, fault := AsText(x.v)
	if fault.Kind == api.Fault {
		same(t, fault, x.text, "AsText of", x.v)
		if s != "" {
			t.Fatal("AsText beside a fault", x.v, s)
		}
	} else {
		same(t, fault, blank, "AsText's second of", x.v)
		same(t, txt(s), x.text, "AsText of", x.v)
	}
	b, fault := AsTruth(x.v)
	if fault.Kind == api.Fault {
		same(t, fault, x.truth, "AsTruth of", x.v)
		if b {
			t.Fatal("AsTruth beside a fault", x.v)
		}
	} else {
		same(t, fault, blank, "AsTruth's second of", x.v)
		same(t, is(b), x.truth, "AsTruth of", x.v)
	}
}

// Promise 2.3: every kind as every kind.
func TestAs(t *testing.T) {
	for _, x := range []as3{
		{blank, n(0, 1), txt(""), is(false)},
		{n(0, 1), n(0, 1), txt("0"), is(false)},
		{n(1, 1), n(1, 1), txt("1"), is(true)},
		{n(-1, 2), n(-1, 2), txt("-0.5"), is(true)},
		{n(1, 3), n(1, 3), txt("1/3"), is(true)},
		{n(-top, 1), n(-top, 1), txt("-1000000000000"), is(true)},
		{n(1, bottom), n(1, bottom), txt("0.000001"), is(true)},
		{is(true), n(1, 1), txt("TRUE"), is(true)},
		{is(false), n(0, 1), txt("FALSE"), is(false)},
		{txt(""), valued, txt(""), valued},
		{txt("12"), n(12, 1), txt("12"), valued},
		{txt("0"), n(0, 1), txt("0"), valued},
		{txt("007"), n(7, 1), txt("007"), valued},
		{txt("-2/4"), n(-1, 2), txt("-2/4"), valued},
		{txt("1/0"), valued, txt("1/0"), valued},
		{txt("1000000000001"), valued, txt("1000000000001"), valued},
		{txt(" 1"), valued, txt(" 1"), valued},
		{txt("1 "), valued, txt("1 "), valued},
		{txt("TRUE"), valued, txt("TRUE"), is(true)},
		{txt("FALSE"), valued, txt("FALSE"), is(false)},
		{txt("true"), valued, txt("true"), valued},
		{txt("True"), valued, txt("True"), valued},
		{txt("TRUE "), valued, txt("TRUE "), valued},
		{txt("#N/A"), valued, txt("#N/A"), valued},
		{txt("'12"), valued, txt("'12"), valued},
		{txt(xs(256)), valued, txt(xs(256)), valued},
	} {
		x.check(t)
	}
	for code := api.FaultDiv; code <= api.FaultArg; code++ {
		as3{bad(code), bad(code), bad(code), bad(code)}.check(t)
	}
}
