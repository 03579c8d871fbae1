package value

import (
	"testing"

	"whittle/api"
)

// The chapter's table of examples, row by row.

func TestExamplesAsNumber(t *testing.T) {
	for _, x := range []struct{ v, want api.Value }{{txt("12"), n(12, 1)}, {txt("1/4"), n(1, 4)}, {txt(" 1"), valued}, {is(true), n(1, 1)}, {blank, n(0, 1)}, {txt("x"), valued}} {
		a, fault := AsNumber(x.v)
		if x.want.Kind == api.Fault {
			same(t, fault, x.want, "AsNumber of", x.v)
		} else {
			same(t, n(a.N, a.D), x.want, "AsNumber of", x.v)
		}
	}
}

func TestExamplesAsTruth(t *testing.T) {
	for _, x := range []struct{ v, want api.Value }{{txt("TRUE"), is(true)}, {txt("true"), valued}, {n(0, 1), is(false)}, {n(1, 2), is(true)}, {blank, is(false)}} {
		b, fault := AsTruth(x.v)
		if x.want.Kind == api.Fault {
			same(t, fault, x.want, "AsTruth of", x.v)
		} else {
			same(t, is(b), x.want, "AsTruth of", x.v)
		}
	}
}

func TestExamplesBin(t *testing.T) {
	for _, x := range []two{
		{n(1, 1), api.OpAdd, txt("2"), n(3, 1)}, {n(1, 1), api.OpAdd, txt("x"), valued}, {n(1, 1), api.OpDiv, n(0, 1), divide}, {n(0, 1), api.OpPow, n(-1, 1), divide}, {n(2, 1), api.OpPow, n(1, 2), unfit}, {n(top, 1), api.OpMul, n(2, 1), unfit}, {none, api.OpAdd, lost, none}, {n(1, 1), api.OpJoin, is(true), txt("1TRUE")},
		{blank, api.OpEq, n(0, 1), is(true)}, {blank, api.OpEq, txt(""), is(true)}, {blank, api.OpEq, is(false), is(true)}, {n(0, 1), api.OpEq, txt(""), is(false)}, {n(2, 1), api.OpLt, txt("1"), is(true)}, {txt("b"), api.OpGt, txt("abc"), is(true)}, {txt("Z"), api.OpLt, txt("a"), is(true)},
	} {
		x.check(t)
	}
}

func TestExamplesUn(t *testing.T) {
	same(t, Un(api.OpNeg, txt("5")), n(-5, 1), "- \"5\"")
	same(t, Un(api.OpPercent, n(5, 1)), n(1, 20), "% 5")
	same(t, Un(api.OpPlus, txt("x")), txt("x"), "+ \"x\"")
	same(t, Un(api.OpNeg, none), none, "- #N/A")
}

func TestExamplesSame(t *testing.T) {
	if !Same(n(1, 1), n(1, 1)) || Same(txt("1"), n(1, 1)) || Same(blank, blank) || Same(none, none) {
		t.Fatal("Same")
	}
}

func TestExamplesShow(t *testing.T) {
	for _, x := range []struct {
		v    api.Value
		want string
	}{{txt("12"), "'12"}, {txt("TRUE"), "'TRUE"}, {txt("=A1"), "'=A1"}, {txt("'x"), "''x"}, {txt("abc"), "abc"}, {txt(""), "'"}, {none, "#N/A"}} {
		if got := Show(x.v); got != x.want {
			t.Fatal("Show of", x.v, "is", got)
		}
	}
}

func TestExamplesRead(t *testing.T) {
	for _, x := range []struct {
		s    string
		want api.Value
	}{{"'12", txt("12")}, {"12", n(12, 1)}, {"1.50", n(3, 2)}, {"#N/A", none}, {"#n/a", txt("#n/a")}, {"=1", txt("=1")}, {"'", txt("")}, {"1 2", txt("1 2")}} {
		same(t, Read(x.s), x.want, "Read of", x.s)
	}
}

func TestExamplesJoin(t *testing.T) {
	same(t, Join(), txt(""), "Join()")
	same(t, Join(txt("a"), n(1, 1), blank, is(true)), txt("a1TRUE"), "Join(\"a\", 1, _, TRUE)")
	same(t, Join(txt("a"), lost, txt("b")), lost, "Join(\"a\", #REF!, \"b\")")
}
