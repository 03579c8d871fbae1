package tree

import (
	"strings"
	"testing"

	"whittle/api"
)

// within puts brackets around a text, or not.
func within(yes bool, s string) string {
	if yes {
		return "(" + s + ")"
	}
	return s
}

// Promise 5.6: brackets of each operator within each other one, on both sides.
func TestBracketsOfEach(t *testing.T) {
	for outer, a := range betweenOps {
		for inner, b := range betweenOps {
			x := bin(b.op, n(1), n(2))
			printed(t, bin(a.op, x, n(3)), within(b.tight < a.tight, "1"+inner+"2")+outer+"3")
			printed(t, bin(a.op, n(3), x), "3"+outer+within(b.tight <= a.tight, "1"+inner+"2"))
			printed(t, bin(a.op, x, x), within(b.tight < a.tight, "1"+inner+"2")+outer+within(b.tight <= a.tight, "1"+inner+"2"))
		}
	}
}

// Promise 5.6: brackets of signs and % within operators, of these within signs and %, and of signs and % within one another.
func TestBracketsOfSigns(t *testing.T) {
	for mark, o := range betweenOps {
		x := bin(o.op, n(1), n(2))
		for sign, op := range signOps {
			printed(t, un(op, x), sign+"(1"+mark+"2)")
			printed(t, bin(o.op, un(op, n(1)), un(op, n(2))), sign+"1"+mark+sign+"2")
			printed(t, un(op, percent(x)), sign+"(1"+mark+"2)%")
			printed(t, percent(un(op, x)), "("+sign+"(1"+mark+"2))%")
		}
		printed(t, percent(x), "(1"+mark+"2)%")
		printed(t, bin(o.op, percent(n(1)), percent(n(2))), "1%"+mark+"2%")
	}
	for sign, op := range signOps {
		for other, op2 := range signOps {
			printed(t, un(op, un(op2, n(1))), sign+other+"1")
			printed(t, un(op, percent(un(op2, n(1)))), sign+"("+other+"1)%")
		}
		printed(t, un(op, percent(n(1))), sign+"1%")
		printed(t, percent(percent(un(op, n(1)))), "("+sign+"1)%%")
	}
	printed(t, percent(percent(n(1))), "1%%")
	printed(t, bin(api.OpPow, neg(n(1)), neg(bin(api.OpPow, n(2), n(3)))), "-1^-(2^3)")
}

// Promise 5.6: no brackets around what no operator takes apart, nor around arguments.
func TestBracketsOfSingles(t *testing.T) {
	for s, x := range map[string]sample{"0.5": frac(1, 2), `"a"`: txt("a"), "TRUE": truth(true), "#REF!": fault(api.FaultRef), "A1": cell(at(0, 0)), "T!A1:B2": area(on("T", 0, 0), at(1, 1)), "F()": call("F"), "F(1,2)": call("F", n(1), n(2))} {
		printed(t, x, s)
		printed(t, neg(x), "-"+s)
		printed(t, percent(x), s+"%")
		printed(t, bin(api.OpPow, x, x), s+"^"+s)
		printed(t, bin(api.OpEq, x, x), s+"="+s)
		printed(t, call("G", x, neg(x), bin(api.OpEq, x, x)), "G("+s+",-"+s+","+s+"="+s+")")
	}
}

// Promise 5.6: numbers by num.Text.
func TestPrintNumbers(t *testing.T) {
	for s, x := range map[string]api.Num{"0": {N: 0, D: 1}, "7": {N: 7, D: 1}, "1.5": {N: 3, D: 2}, "0.125": {N: 1, D: 8}, "0.000001": {N: 1, D: api.MaxDen}, "1000000000000": {N: api.MaxNum, D: 1}, "999999.999999": {N: 999999999999, D: api.MaxDen}, "0.015625": {N: 1, D: 64}, "63999999.999936": {N: 999999999999, D: 15625}} {
		printed(t, frac(x.N, x.D), s)
	}
}

// Promise 5.6: texts in quotes, those within doubled.
func TestPrintTexts(t *testing.T) {
	for want, s := range map[string]string{`""`: "", `"a b"`: "a b", `""""`: `"`, `"a""b"`: `a"b`, `"""a"""`: `"a"`, `"12"`: "12", `"TRUE"`: "TRUE", `"'x"`: "'x", `"=1"`: "=1", `"#N/A"`: "#N/A"} {
		printed(t, txt(s), want)
	}
	printed(t, txt(strings.Repeat(`"`, 256)), `"`+strings.Repeat(`""`, 256)+`"`)
}

// Promise 5.6: faults and truths by their names.
func TestPrintNames(t *testing.T) {
	for s, code := range faultCodes {
		printed(t, fault(code), s)
	}
	printed(t, truth(true), "TRUE")
	printed(t, truth(false), "FALSE")
	printed(t, call("TRUE"), "TRUE()")
	printed(t, call("A1", cell(on("A1", 0, 0))), "A1(A1!A1)")
}

// Promise 5.6: cells and areas as they are.
func TestPrintCells(t *testing.T) {
	printed(t, cell(at(0, 0)), "A1")
	printed(t, cell(at(65535, 255)), "IV65536")
	printed(t, cell(api.Ref{Row: 9, Col: 26, FixRow: true}), "AA$10")
	printed(t, cell(api.Ref{Row: 9, Col: 26, FixCol: true}), "$AA10")
	printed(t, cell(api.Ref{Sheet: "t9", Row: 9, Col: 26, FixCol: true, FixRow: true}), "t9!$AA$10")
	printed(t, area(at(3, 4), at(1, 2)), "E4:C2")
	printed(t, area(at(1, 4), at(3, 2)), "E2:C4")
	printed(t, area(on("TRUE", 1, 1), at(1, 1)), "TRUE!B2:B2")
	printed(t, area(api.Ref{Sheet: "T", FixRow: true}, api.Ref{Row: 1, FixCol: true}), "T!A$1:$A2")
}

// Promise 5.6: arguments with commas between.
func TestPrintCalls(t *testing.T) {
	for k := range api.MaxArgs + 1 {
		printed(t, call("F", many(k)...), args("F", k))
	}
	printed(t, call("F", call("G", n(1), call("H")), call("K", n(2))), "F(G(1,H()),K(2))")
	printed(t, percent(neg(call("F", percent(n(1))))), "(-F(1%))%")
}

// Promises 5.6, 5.7: what is printed may be longer than a formula's text may be; it is printed all the same.
func TestPrintLong(t *testing.T) {
	long := txt(strings.Repeat(`"`, 256))
	list := make([]sample, 30)
	for i := range list {
		list[i] = long
	}
	x := call("F", list...)
	s, code := Print(call("F", call("G", list...), x, x, x, x, x, x).row())
	if code != api.OK || len(s) != 3+7*(2+30*514+30)+6 || strings.Count(s, `"`) != 7*30*514 {
		t.Error("Print is", len(s), "bytes,", code)
	}
	refused(t, s, api.ErrLong, 0)
	// Just as long as may be, and a byte longer.
	for _, more := range []int{0, 1} {
		y := bin(api.OpJoin, long, bin(api.OpJoin, txt(strings.Repeat(`"`, 251)+strings.Repeat("x", 1+more)), n(1)))
		s, code := Print(y.row())
		if code != api.OK || len(s) != 1024+more {
			t.Fatal("Print is", len(s), "bytes,", code)
		}
		if more == 0 {
			read(t, s, y)
		} else {
			refused(t, s, api.ErrLong, 0)
		}
	}
}
