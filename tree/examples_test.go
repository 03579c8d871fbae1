package tree

import (
	"slices"
	"strings"
	"testing"

	"whittle/api"
)

// read holds that a text is read as a formula.
func read(t *testing.T, s string, want sample) {
	t.Helper()
	if l, code, at := Parse(s); !slices.Equal(l, want.row()) || code != api.OK || at != 0 {
		t.Fatalf("Parse of %q is %s, %d, %d", s, brief(l), code, at)
	}
}

// refused holds that a text is refused, why and where.
func refused(t *testing.T, s string, why api.Errno, where int) {
	t.Helper()
	if l, code, at := Parse(s); len(l) != 0 || code != why || at != where {
		t.Fatalf("Parse of %q is %s, %d, %d, not %d, %d", s, brief(l), code, at, why, where)
	}
}

// printed holds what a formula is written as, and that this is read as it.
func printed(t *testing.T, x sample, want string) {
	t.Helper()
	if s, code := Print(x.row()); s != want || code != api.OK {
		t.Fatalf("Print is %q, %d, not %q", s, code, want)
	}
	read(t, want, x)
}

func TestExamplesOperators(t *testing.T) {
	read(t, "1+2*3", bin(api.OpAdd, n(1), bin(api.OpMul, n(2), n(3))))
	read(t, "(1+2)*3", bin(api.OpMul, bin(api.OpAdd, n(1), n(2)), n(3)))
	read(t, "1-2-3", bin(api.OpSub, bin(api.OpSub, n(1), n(2)), n(3)))
	read(t, "2^3^2", bin(api.OpPow, bin(api.OpPow, n(2), n(3)), n(2)))
	read(t, "-2^2", bin(api.OpPow, neg(n(2)), n(2)))
	read(t, "-2%", neg(percent(n(2))))
	read(t, "2%%", percent(percent(n(2))))
	read(t, "1=2=3", bin(api.OpEq, bin(api.OpEq, n(1), n(2)), n(3)))
	read(t, `"a"&1+2`, bin(api.OpJoin, txt("a"), bin(api.OpAdd, n(1), n(2))))
}

func TestExamplesWords(t *testing.T) {
	c3 := api.Ref{Sheet: "T", Row: 2, Col: 2, FixRow: true, FixCol: true}
	read(t, "SUM(A1:B2,T!$C$3)", call("SUM", area(at(0, 0), at(1, 1)), cell(c3)))
	read(t, "NA()", call("NA"))
	read(t, "TRUE", truth(true))
	read(t, "TRUE()", call("TRUE"))
	read(t, "A1!B2", cell(on("A1", 1, 1)))
}

func TestExamplesRefused(t *testing.T) {
	refused(t, "", api.ErrForm, 0)
	refused(t, "1+", api.ErrForm, 2)
	refused(t, "(1", api.ErrForm, 2)
	refused(t, "1 2", api.ErrForm, 2)
	refused(t, "a1", api.ErrForm, 0)
	refused(t, "A0", api.ErrForm, 0)
	refused(t, "SUM(,1)", api.ErrForm, 4)
	refused(t, "A1:T!B2", api.ErrForm, 3)
	refused(t, "1000000000001", api.ErrForm, 0)
	refused(t, "F(1"+strings.Repeat(",1", 30)+")", api.ErrMany, 61)
	refused(t, strings.Repeat("-", 300)+"1", api.ErrNodes, 0)
	refused(t, strings.Repeat("-", 40)+"1", api.ErrDeep, 0)
}

func TestExamplesPrint(t *testing.T) {
	printed(t, bin(api.OpMul, bin(api.OpAdd, n(1), n(2)), n(3)), "(1+2)*3")
	printed(t, bin(api.OpSub, n(1), bin(api.OpSub, n(2), n(3))), "1-(2-3)")
	printed(t, neg(neg(n(1))), "--1")
	printed(t, percent(neg(n(1))), "(-1)%")
	printed(t, bin(api.OpPow, n(2), neg(n(1))), "2^-1")
	printed(t, neg(bin(api.OpPow, n(1), n(2))), "-(1^2)")
}

func TestExamplesKids(t *testing.T) {
	l := bin(api.OpAdd, n(1), bin(api.OpMul, n(2), n(3))).row()
	for i, want := range map[int][]int{0: {1, 2}, 2: {3, 4}, 1: nil, 9: nil} {
		if got := Kids(l, i); !slices.Equal(got, want) {
			t.Error("Kids at", i, "are", got)
		}
	}
}
