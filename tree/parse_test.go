package tree

import (
	"strings"
	"testing"

	"whittle/api"
	"whittle/lex"
)

// Promise 5.3: each operator against each other one, on both sides.
func TestEachAgainstEach(t *testing.T) {
	for first, a := range betweenOps {
		for second, b := range betweenOps {
			s := "1" + first + "2" + second + "3"
			want := bin(b.op, bin(a.op, n(1), n(2)), n(3))
			if b.tight > a.tight {
				want = bin(a.op, n(1), bin(b.op, n(2), n(3)))
			}
			read(t, s, want)
			read(t, "(1"+first+"2)"+second+"3", bin(b.op, bin(a.op, n(1), n(2)), n(3)))
			read(t, "1"+first+"(2"+second+"3)", bin(a.op, n(1), bin(b.op, n(2), n(3))))
		}
	}
}

// Promise 5.3: signs and % bind tighter than anything between.
func TestSignsAgainstEach(t *testing.T) {
	for mark, o := range betweenOps {
		for sign, op := range signOps {
			read(t, sign+"1"+mark+"2", bin(o.op, un(op, n(1)), n(2)))
			read(t, "1"+mark+sign+"2", bin(o.op, n(1), un(op, n(2))))
			read(t, sign+"(1"+mark+"2)", un(op, bin(o.op, n(1), n(2))))
			read(t, "1"+mark+sign+sign+"2"+mark+"3", bin(o.op, bin(o.op, n(1), un(op, un(op, n(2)))), n(3)))
		}
		read(t, "1%"+mark+"2%", bin(o.op, percent(n(1)), percent(n(2))))
		read(t, "(1"+mark+"2)%", percent(bin(o.op, n(1), n(2))))
		read(t, "-1%%"+mark+"-2%", bin(o.op, neg(percent(percent(n(1)))), neg(percent(n(2)))))
		read(t, "(-1)%"+mark+"(-2)%", bin(o.op, percent(neg(n(1))), percent(neg(n(2)))))
	}
}

// Promise 5.3: signs and % ahead of, behind and within powers.
func TestPowers(t *testing.T) {
	pow := func(x, y sample) sample { return bin(api.OpPow, x, y) }
	read(t, "2^3", pow(n(2), n(3)))
	read(t, "-2^-3", pow(neg(n(2)), neg(n(3))))
	read(t, "--2^3", pow(neg(neg(n(2))), n(3)))
	read(t, "2^3%", pow(n(2), percent(n(3))))
	read(t, "2%^3", pow(percent(n(2)), n(3)))
	read(t, "-2%^-3%", pow(neg(percent(n(2))), neg(percent(n(3)))))
	read(t, "2^-3^-4", pow(pow(n(2), neg(n(3))), neg(n(4))))
	read(t, "2^(3^4)", pow(n(2), pow(n(3), n(4))))
	read(t, "-(2^3)", neg(pow(n(2), n(3))))
	read(t, "(2^3)%", percent(pow(n(2), n(3))))
	read(t, "1-2^2", bin(api.OpSub, n(1), pow(n(2), n(2))))
	read(t, "1--2^2", bin(api.OpSub, n(1), pow(neg(n(2)), n(2))))
	read(t, "2*-3^2/4", bin(api.OpDiv, bin(api.OpMul, n(2), pow(neg(n(3)), n(2))), n(4)))
}

// Promise 5.4: numbers, as num.Read tells them.
func TestReadNumbers(t *testing.T) {
	for s, want := range map[string]api.Num{"0": {N: 0, D: 1}, "00": {N: 0, D: 1}, "0.0": {N: 0, D: 1}, "7": {N: 7, D: 1}, "007": {N: 7, D: 1}, "1.50": {N: 3, D: 2}, "0.125": {N: 1, D: 8}, "0.000001": {N: 1, D: api.MaxDen}, "1000000000000": {N: api.MaxNum, D: 1}, "1000000000000.000000": {N: api.MaxNum, D: 1}, "000000000000000000000000001": {N: 1, D: 1}, "999999.999999": {N: 999999999999, D: api.MaxDen}, "1000000.000000": {N: 1000000, D: 1}} {
		read(t, s, frac(want.N, want.D))
		read(t, "-"+s, neg(frac(want.N, want.D)))
	}
	read(t, "1/2", bin(api.OpDiv, n(1), n(2)))
	read(t, "499999999999.5", frac(999999999999, 2))
}

// Promise 5.5: numbers that don't fit are refused where they stand.
func TestNumbersThatDontFit(t *testing.T) {
	for _, s := range []string{"1000000000001", "1000000000000.5", "500000000000.5", "1000000.000001", "0.0000001", "0.0000000", "1.5000000", "1000000000000000000", "1000000000000000001", "9223372036854775808", "18446744073709551617", strings.Repeat("9", 1000), "1." + strings.Repeat("0", 900)} {
		refused(t, s, api.ErrForm, 0)
		refused(t, " 1+"+s, api.ErrForm, 3)
		refused(t, "F(1,"+s+")", api.ErrForm, 4)
		refused(t, s+" 2", api.ErrForm, 0)
	}
}

// Promises 5.4, 5.5: texts, and such as are too long.
func TestReadTexts(t *testing.T) {
	for s, want := range map[string]string{`""`: "", `"a"`: "a", `"a""b"`: `a"b`, `""""`: `"`, `" a "`: " a ", `"TRUE"`: "TRUE", `"12"`: "12", `"#N/A"`: "#N/A", `"("`: "(", `"%"`: "%", `"'x"`: "'x", `"=1"`: "=1"} {
		read(t, s, txt(want))
		read(t, s+"&"+s, bin(api.OpJoin, txt(want), txt(want)))
		refused(t, s+" "+s, api.ErrForm, len(s)+1)
	}
	for _, length := range []int{255, 256} {
		read(t, `"`+strings.Repeat("x", length)+`"`, txt(strings.Repeat("x", length)))
		read(t, `"`+strings.Repeat(`""`, length)+`"`, txt(strings.Repeat(`"`, length)))
	}
	for _, length := range []int{257, 258, 500} {
		refused(t, `"`+strings.Repeat("x", length)+`"`, api.ErrForm, 0)
		refused(t, `1&"`+strings.Repeat(`""`, length)+`"`, api.ErrForm, 2)
	}
}

// Promise 5.3: what a text says is no mark and no word.
func TestTextsAreNoMarks(t *testing.T) {
	for _, mark := range []string{"+", "-", "%", ")", ",", "=", "^", "<>", ":"} {
		refused(t, `1"`+mark+`"2`, api.ErrForm, 1)
		refused(t, `(1"`+mark+`"`, api.ErrForm, 2)
		refused(t, `A1"`+mark+`"A2`, api.ErrForm, 2)
	}
	refused(t, `"("1)`, api.ErrForm, 3)
	refused(t, `F"("1)`, api.ErrForm, 0)
	refused(t, `T"!"A1`, api.ErrForm, 0)
	refused(t, `T!"A1"`, api.ErrForm, 2)
	refused(t, `A1:"B2"`, api.ErrForm, 3)
}

// Promise 5.4: faults.
func TestReadFaults(t *testing.T) {
	for s, code := range faultCodes {
		read(t, s, fault(code))
		read(t, s+"%", percent(fault(code)))
		read(t, "-"+s+"+"+s, bin(api.OpAdd, neg(fault(code)), fault(code)))
		refused(t, s+s, api.ErrForm, len(s))
		refused(t, s+"(1)", api.ErrForm, len(s))
		refused(t, s+"!A1", api.ErrForm, len(s))
	}
}

// Promise 5.3: TRUE and FALSE with and without ( and ! behind them.
func TestTruths(t *testing.T) {
	for s, b := range map[string]bool{"TRUE": true, "FALSE": false} {
		read(t, s, truth(b))
		read(t, s+"%", percent(truth(b)))
		read(t, "1="+s, bin(api.OpEq, n(1), truth(b)))
		read(t, s+"()", call(s))
		read(t, s+" ( 1 )", call(s, n(1)))
		read(t, s+"!A1", cell(on(s, 0, 0)))
		read(t, s+" ! A1 : B2", area(on(s, 0, 0), at(1, 1)))
		read(t, "F("+s+","+s+")", call("F", truth(b), truth(b)))
		refused(t, s+":A1", api.ErrForm, len(s))
		refused(t, "A1:"+s, api.ErrForm, 3)
		refused(t, "T!"+s, api.ErrForm, 2)
		refused(t, s+" "+s, api.ErrForm, len(s)+1)
		refused(t, "T!"+s+"()", api.ErrForm, 2)
	}
	for _, s := range []string{"true", "True", "false", "TRUEE", "TRU", "$TRUE", "TRUE$", "TRUE1"} {
		refused(t, s, api.ErrForm, 0)
	}
	refused(t, "True()", api.ErrForm, 0)
	read(t, "true!A1", cell(on("true", 0, 0)))
}

// Promise 5.3: cells with $ in every place.
func TestFixedCells(t *testing.T) {
	read(t, "B3", cell(at(2, 1)))
	read(t, "$B3", cell(api.Ref{Row: 2, Col: 1, FixCol: true}))
	read(t, "B$3", cell(api.Ref{Row: 2, Col: 1, FixRow: true}))
	read(t, "$B$3", cell(api.Ref{Row: 2, Col: 1, FixRow: true, FixCol: true}))
	read(t, "$IV$65536", cell(api.Ref{Row: 65535, Col: 255, FixRow: true, FixCol: true}))
	read(t, "AA$10", cell(api.Ref{Row: 9, Col: 26, FixRow: true}))
	// With $ in each set of places of a name.
	for _, name := range []string{"B3", "AB12", "IV65536", "Z9"} {
		for places := range 1 << (len(name) + 1) {
			s := ""
			for i := range len(name) + 1 {
				if places&(1<<i) != 0 {
					s += "$"
				}
				s += name[i:min(i+1, len(name))]
			}
			holdParse(t, s)
			holdParse(t, "T!"+s+":"+s)
			holdParse(t, "$"+s)
			holdParse(t, s+"$")
		}
	}
}

// Promise 5.3: words that name no cell.
func TestNoCells(t *testing.T) {
	for _, s := range []string{"A", "Z", "IV", "X", "$", "$$", "$A", "A$", "$A$", "$1", "A0", "A01", "A00", "a1", "aA1", "Aa1", "IW1", "ZZ1", "AAA1", "A65537", "A99999", "A100000", "A18446744073709551617", "A1A", "A1$", "A$1$", "$$A1", "A$$1", "A$B1", "A1$2", "$A$B$1", "A1B2", "SUM", "T", "ABCDEFGHIJKLMNOPQ1", "A0$1", "A$01", "A$0"} {
		refused(t, s, api.ErrForm, 0)
		refused(t, "-"+s, api.ErrForm, 1)
		refused(t, "T!"+s, api.ErrForm, 2)
		refused(t, "A1:"+s, api.ErrForm, 3)
		refused(t, "T!A1:"+s, api.ErrForm, 5)
		refused(t, "F(1,"+s+")", api.ErrForm, 4)
		refused(t, s+":A1", api.ErrForm, 0)
	}
}

// Promise 5.3: the last row and column, and the next ones.
func TestLastCells(t *testing.T) {
	read(t, "A65536", cell(at(65535, 0)))
	read(t, "IV1", cell(at(0, 255)))
	read(t, "IV65536", cell(at(65535, 255)))
	read(t, "T!IV65536:A1", area(on("T", 65535, 255), at(0, 0)))
	refused(t, "A65537", api.ErrForm, 0)
	refused(t, "IW1", api.ErrForm, 0)
	refused(t, "A1:IW1", api.ErrForm, 3)
	refused(t, "A1:A$65537", api.ErrForm, 3)
}

// Promise 5.3: areas, their corners in any order, on their own sheet and on another one.
func TestAreas(t *testing.T) {
	corners := []api.Ref{at(0, 0), at(0, 4), at(3, 0), at(3, 4), {Row: 3, Col: 4, FixRow: true}, {Row: 65535, Col: 255, FixCol: true}, {FixRow: true, FixCol: true}}
	for _, a := range corners {
		for _, b := range corners {
			read(t, cellWord(a)+":"+cellWord(b), area(a, b))
			read(t, cellWord(a)+" : "+cellWord(b), area(a, b))
			a := a
			a.Sheet = "Other1"
			read(t, "Other1!"+cellWord(a)+":"+cellWord(b), area(a, b))
			read(t, "SUM(-Other1 ! "+cellWord(a)+":"+cellWord(b)+"%)", call("SUM", neg(percent(area(a, b)))))
		}
	}
	for s, where := range map[string]int{"A1:": 3, "A1: ": 4, ":A1": 0, "A1::B2": 3, "A1:B2:C3": 5, "A1:1": 3, "A1:T!B2": 3, "T!A1:T!B2": 5, "A1:(B2)": 3, "(A1):B2": 4, "A1:-B2": 3, "A1%:B2": 3, "A1:B2(1)": 3, "A1:B2()": 3, "A1:B2!C3": 3, "A1:F(1)": 3, "A1:#REF!": 3, "1:2": 1, "A1 B2": 3, "A:B": 0, "A1:B": 3, "F():A1": 3, `"A1":B2`: 4} {
		refused(t, s, api.ErrForm, where)
	}
}

// Promise 5.3: a word with ! behind it is a sheet's name.
func TestSheets(t *testing.T) {
	for _, s := range names() {
		if !sheetForm.MatchString(s[:min(len(s), api.MaxName)]) || strings.Trim(s, capitals+smalls+"0123456789") != "" {
			continue
		}
		if len(s) > api.MaxName {
			refused(t, s+"!B2", api.ErrForm, 0)
			refused(t, "1+"+s+"!B2", api.ErrForm, 2)
			continue
		}
		read(t, s+"!B2", cell(on(s, 1, 1)))
		read(t, s+" ! B2:C3", area(on(s, 1, 1), at(2, 2)))
	}
	for s, where := range map[string]int{"T!": 2, "T! ": 3, "T!!A1": 2, "!A1": 0, "$A!B1": 0, "A$1!B1": 0, "A$!B1": 0, "T!1": 2, "T!(A1)": 2, "T!-A1": 2, "T!A1!B2": 2, "T!A1(1)": 2, "T!A1()": 2, "T!F()": 2, "T!#REF!": 2, "A1 T!A1": 3, "1!A1": 1, "(T)!A1": 1, "T!A1 T!A1": 5} {
		refused(t, s, api.ErrForm, where)
	}
}

// Promise 5.3: a word with ( behind it is a function's name.
func TestCalls(t *testing.T) {
	for _, s := range []string{"F", "SUM", "A1", "IV65536", "R2D2", "TRUE", "Q999999999999999", "ABCDEFGHIJKLMNOP"} {
		read(t, s+"()", call(s))
		read(t, s+" ( )", call(s))
		read(t, s+"(1)", call(s, n(1)))
		read(t, s+"(1,2)%", percent(call(s, n(1), n(2))))
		read(t, s+"("+s+"(),("+s+"(1)))", call(s, call(s), call(s, n(1))))
		read(t, "-"+s+"(A1:B2)^2", bin(api.OpPow, neg(call(s, area(at(0, 0), at(1, 1)))), n(2)))
	}
	for _, s := range []string{"f", "sum", "Sum", "sUM", "F$", "$F", "$A$1", "A$1", "ABCDEFGHIJKLMNOPQ", "Q9999999999999999", "a1"} {
		refused(t, s+"()", api.ErrForm, 0)
		refused(t, s+" (1)", api.ErrForm, 0)
		refused(t, "F(1,"+s+"(1))", api.ErrForm, 4)
		refused(t, "1 "+s+"(", api.ErrForm, 2)
	}
	for s, where := range map[string]int{"F(": 2, "F(1": 3, "F(1,": 4, "F(,": 2, "F(,)": 2, "F(,1)": 2, "F(1,)": 4, "F(1,,2)": 4, "F(1 2)": 4, "F(1))": 4, "F()(": 3, "F()()": 3, "F(1)2": 4, "F()F()": 3, "F)": 0, "F,1": 0, "1,2": 1, "(1,2)": 2, "F((1,2))": 4, "F(1:2)": 3, "F(%)": 2, "F(=)": 2, "(F)(1)": 1, "F%(1)": 0, "12(1)": 2} {
		refused(t, s, api.ErrForm, where)
	}
}

// args is a call with so many arguments, as text.
func args(name string, k int) string {
	if k == 0 {
		return name + "()"
	}
	return name + "(" + strings.Repeat("1,", k-1) + "1)"
}

// Promise 5.5: 0, MaxArgs and one more argument.
func TestArguments(t *testing.T) {
	for k := range api.MaxArgs + 1 {
		read(t, args("F", k), call("F", many(k)...))
		read(t, args("F", k)+"+"+args("G", k), bin(api.OpAdd, call("F", many(k)...), call("G", many(k)...)))
	}
	for _, k := range []int{31, 32, 40, 300} {
		refused(t, args("F", k), api.ErrMany, 61)
		refused(t, "1+"+args("F", k)+"+", api.ErrMany, 63)
		refused(t, "(((("+args("F", k), api.ErrMany, 65)
		refused(t, "F(1,"+args("F", k)+",,", api.ErrMany, 65)
	}
	full := strings.TrimSuffix(args("F", 30), ")")
	refused(t, full, api.ErrForm, len(full))
	refused(t, full+",", api.ErrMany, len(full))
	refused(t, full+" ,", api.ErrMany, len(full)+1)
	refused(t, full+",)", api.ErrMany, len(full))
	refused(t, full+",,", api.ErrMany, len(full))
	refused(t, full+"%,", api.ErrMany, len(full)+1)
	refused(t, full+"+,", api.ErrForm, len(full)+1)
	refused(t, full+"+(2,", api.ErrForm, len(full)+3)
	refused(t, full+" 2", api.ErrForm, len(full)+1)
	refused(t, full+"+1+G(2,3,", api.ErrForm, len(full)+9)
	refused(t, full+"+G(2,3),", api.ErrMany, len(full)+7)
	refused(t, full+")),", api.ErrForm, len(full)+1)
	refused(t, full+"),", api.ErrForm, len(full)+1)
	refused(t, "G("+full+"),2", api.ErrForm, len(full)+5)
	// What comes ahead of the comma is told first, and what comes behind it never.
	refused(t, "F("+strings.Repeat("1,", 28)+"a1,1,1", api.ErrForm, 58)
	refused(t, args("F", 31)+`"`, api.ErrQuote, 64)
	refused(t, args("F", 31)+"a1", api.ErrMany, 61)
	// Thirty calls of thirty: too many nodes, but not too many arguments.
	refused(t, "F("+strings.TrimSuffix(strings.Repeat(args("G", 10)+",", 30), ",")+")", api.ErrNodes, 0)
}

// Promise 5.5: what lex.Scan refuses is told as it tells it.
func TestScanIsFirst(t *testing.T) {
	for s, where := range map[string]int{"_": 0, "1+_": 2, ")_": 1, "1 2 3 .": 6, "a1 #N/B": 3, "1.": 1, "\x00": 0, "\xff": 0, `"` + "\n" + `"`: 1, "1000000000001~": 13} {
		refused(t, s, api.ErrByte, where)
	}
	for s, where := range map[string]int{`"`: 0, `1+"a`: 2, `)"`: 1, `F(,"""`: 3} {
		refused(t, s, api.ErrQuote, where)
	}
	refused(t, strings.Repeat("1", 1025), api.ErrLong, 0)
	refused(t, strings.Repeat(" ", 1025), api.ErrLong, 0)
	refused(t, "1"+strings.Repeat(" ", 1024), api.ErrLong, 0)
	refused(t, strings.Repeat("\xff", 100000), api.ErrLong, 0)
	read(t, "1"+strings.Repeat(" ", 1023), n(1))
	refused(t, strings.Repeat(" ", 1024), api.ErrForm, 1024)
}

// Promise 5.5: the most nodes and the deepest, and one more.
func TestParseLimits(t *testing.T) {
	refused(t, strings.Repeat("-", 32)+"1", api.ErrDeep, 0)
	refused(t, strings.Repeat("-", 255)+"1", api.ErrDeep, 0)
	refused(t, strings.Repeat("-", 256)+"1", api.ErrNodes, 0)
	refused(t, strings.Repeat("-", 1023)+"1", api.ErrNodes, 0)
	refused(t, strings.Repeat("-", 1024), api.ErrForm, 1024)
	refused(t, "1"+strings.Repeat("%", 32), api.ErrDeep, 0)
	refused(t, "1"+strings.Repeat("%", 1023), api.ErrNodes, 0)
	read(t, strings.Repeat("-", 31)+"1", times(31, neg, n(1)))
	read(t, "1"+strings.Repeat("%", 31), times(31, percent, n(1)))
	read(t, "1"+strings.Repeat("+1", 31), times(31, func(x sample) sample { return bin(api.OpAdd, x, n(1)) }, n(1)))
	refused(t, "1"+strings.Repeat("+1", 32), api.ErrDeep, 0)
	refused(t, "1"+strings.Repeat("+1", 127), api.ErrDeep, 0)
	refused(t, "1"+strings.Repeat("+1", 128), api.ErrNodes, 0)
	refused(t, "1"+strings.Repeat("+1", 511)+"+", api.ErrForm, 1024)
	read(t, strings.Repeat("F(", 31)+"1"+strings.Repeat(")", 31), times(31, func(x sample) sample { return call("F", x) }, n(1)))
	refused(t, strings.Repeat("F(", 32)+"1"+strings.Repeat(")", 32), api.ErrDeep, 0)
	read(t, strings.Repeat("F(", 31)+"G()"+strings.Repeat(")", 31), times(31, func(x sample) sample { return call("F", x) }, call("G")))
	refused(t, strings.Repeat("F(", 341)+strings.Repeat(")", 341), api.ErrNodes, 0)
	for _, k := range []int{255, 256, 257} {
		x := balanced(k)
		if k > api.MaxNodes {
			refused(t, bracketed(x), api.ErrNodes, 0)
			continue
		}
		read(t, bracketed(x), x)
	}
}

// Promises 5.4, 5.5: brackets are no nodes, however many.
func TestManyBrackets(t *testing.T) {
	for _, k := range []int{1, 31, 32, 33, 255, 256, 257, 511} {
		read(t, strings.Repeat("(", k)+"1"+strings.Repeat(")", k), n(1))
		refused(t, strings.Repeat("(", k)+"1"+strings.Repeat(")", k-1), api.ErrForm, 2*k)
		refused(t, strings.Repeat("(", k)+"1"+strings.Repeat(")", k)+")", api.ErrForm, 2*k+1)
		refused(t, strings.Repeat("(", k)+strings.Repeat(")", k), api.ErrForm, k)
		refused(t, strings.Repeat("(", k), api.ErrForm, k)
	}
	refused(t, strings.Repeat("(", 1024), api.ErrForm, 1024)
}

// good are formulas that use the whole grammar.
func good() []string {
	return []string{"1", "-1", "1+2*3^4%", `"a"&"b"&1`, "SUM(A1:B2,T!$C$3)", "IF(TRUE,-(1+2),NA())", "((1))", "T!A1:B2=S!C3", "F(1,G(2,(3)),H())", "#N/A<>FALSE", "1<=2<3>4>=5=6", "+-+1%%", "TRUE()+TRUE!A1", "F(A1:B2)%^-2"}
}

// Promise 5.5: texts that end too early, at every token.
func TestEndsTooEarly(t *testing.T) {
	early := 0
	for _, s := range good() {
		tokens, _, _ := lex.Scan(s)
		for _, token := range tokens {
			for _, cut := range []string{s[:token.At], s[:token.At] + "  "} {
				holdParse(t, cut)
				if _, code, at := Parse(cut); code != api.OK && at == len(cut) {
					early++
				}
			}
		}
	}
	if early < 50 {
		t.Error("just", early, "texts end too early")
	}
}

// Promise 5.5: each token where it can't stand: put ahead of each one, in its stead, and each one left out.
func TestTokensWhereTheyCantStand(t *testing.T) {
	for _, s := range good() {
		tokens, _, _ := lex.Scan(s)
		bounds := append(tokens, api.Token{At: len(s)})
		for k := range tokens {
			from, to := bounds[k].At, bounds[k+1].At
			holdParse(t, s[:from]+s[to:])
			for _, other := range []string{"1", "1000000000001", `"x"`, "A1", "a1", "T", "TRUE", "#N/A", "+", "-", "*", "/", "^", "&", "%", "(", ")", ",", ":", "!", "=", "<", ">", "<>", "<=", ">="} {
				holdParse(t, s[:from]+" "+other+" "+s[from:])
				holdParse(t, s[:from]+" "+other+" "+s[to:])
				holdParse(t, s+" "+other)
			}
		}
	}
}
