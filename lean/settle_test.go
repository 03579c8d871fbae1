package lean

import (
	"strings"
	"testing"

	"whittle/api"
	"whittle/funcs"
	"whittle/value"
)

var (
	div  = bad(api.FaultDiv)
	val  = bad(api.FaultValue)
	ref  = bad(api.FaultRef)
	num  = bad(api.FaultNum)
	na   = bad(api.FaultNA)
	long = bad(api.FaultLong)
	arg  = bad(api.FaultArg)
)

func TestValues(t *testing.T) { // Promise 10.1: a value at itself.
	constAt(t, "0", n(0))
	constAt(t, "1.5", part(3, 2))
	constAt(t, "0.000001", part(1, api.MaxDen))
	constAt(t, "1000000000000", n(api.MaxNum))
	constAt(t, `""`, txt(""))
	constAt(t, `"a""b"`, txt(`a"b`))
	constAt(t, `"12"`, txt("12"))
	constAt(t, `"`+strings.Repeat("x", api.MaxText)+`"`, txt(strings.Repeat("x", api.MaxText)))
	constAt(t, "TRUE", truth(true))
	constAt(t, "FALSE", truth(false))
	for code := api.FaultDiv; code <= api.FaultArg; code++ {
		constAt(t, value.Show(bad(code)), bad(code))
	}
}

func TestCellsAreNotSettled(t *testing.T) { // Promise 10.1: a cell is not, whatever is done with it.
	for _, s := range []string{"A1", "T!$B$2", "-A1", "A1%", "+A1", "A1+1", "1+A1", "A1*0", "0*A1", "#N/A+A1", "A1&A1", "A1=A1", "LEN(A1)", "ISERROR(A1)", "MOD(1,A1)", "MOD(A1,0)", "MID(#N/A,A1,1)", "SUM(A1)", "COUNT(1,A1)"} {
		leanAsEver(t, s)
	}
}

func TestOperationsOfOne(t *testing.T) { // Promise 10.1: at what value.Un tells; numbers that no formula's value may be, too.
	constAt(t, "-1", n(-1))
	constAt(t, "--1", n(1))
	constAt(t, `+"x"`, txt("x"))
	constAt(t, `-"x"`, val)
	constAt(t, `-"1/3"`, part(-1, 3))
	constAt(t, "-TRUE", n(-1))
	constAt(t, "5%", part(1, 20))
	constAt(t, "0.000001%", num)
	constAt(t, "-#REF!", ref)
	constAt(t, "-(1/0)%", div)
}

func TestOperationsOfTwo(t *testing.T) { // Promise 10.1: at what value.Bin tells, of each operation.
	operators := []string{"+", "-", "*", "/", "^", "&"}
	compares := []string{"=", "<>", "<", "<=", ">", ">="}
	operands := map[string]api.Value{"0": n(0), "2": n(2), "0.5": part(1, 2), `""`: txt(""), `"2"`: txt("2"), `"x"`: txt("x"), "TRUE": truth(true), "#N/A": na, "#DIV/0!": div}
	for a, x := range operands {
		for b, y := range operands {
			for i, op := range operators {
				constAt(t, a+op+b, value.Bin(api.OpAdd+i, x, y))
			}
			for i, op := range compares {
				constAt(t, a+op+b, value.Bin(api.OpEq+i, x, y))
			}
		}
	}
	constAt(t, "1/3", part(1, 3))
	constAt(t, "1-2", n(-1))
	constAt(t, "2-(3-4)", n(3))
	constAt(t, "1000000000000*2", num)
	constAt(t, `REPT("x",256)&"y"`, long)
}

func TestScalars(t *testing.T) { // Promise 10.1: at funcs.Apply of the arguments, of each scalar with each number of them.
	given := []string{"-2", `"abc"`, "#REF!", "1.5", "TRUE"}
	values := []api.Value{n(-2), txt("abc"), ref, part(3, 2), truth(true)}
	for _, f := range funcs.All() {
		if f.Class != api.ClassScalar {
			continue
		}
		for args := f.Least; args <= f.Most; args++ {
			for shift := range given {
				var texts []string
				var by []api.Value
				for i := range args {
					k := (shift + i) % len(given)
					texts, by = append(texts, given[k]), append(by, values[k])
				}
				constAt(t, f.Name+"("+strings.Join(texts, ",")+")", funcs.Apply(f.Id, by...))
			}
		}
	}
	constAt(t, "ROUND(5/2)", n(3))
	constAt(t, "ROUND(1.25,1)", part(13, 10))
	constAt(t, `MID("abc",2,1+1)`, txt("bc"))
	constAt(t, "ISERROR(1/0)", truth(true))
	constAt(t, "ABS(NA())", na)
}

func TestScalarsNotSettled(t *testing.T) { // Promise 10.1: with one argument that is not settled a scalar is not, whatever the others are.
	leanIs(t, "ABS(A1)", "load A1; call 40 1; store")
	leanIs(t, "ROUND(1+1,A1)", "push 2; load A1; call 43 2; store")
	leanIs(t, "ROUND(A1,1+1)", "load A1; push 2; call 43 2; store")
	leanIs(t, "MOD(1/0,A1)", "push #DIV/0!; load A1; call 44 2; store")
	leanIs(t, `MID("a"&"b",-A1,2*3)`, `push "ab"; load A1; un 1; push 6; call 51 3; store`)
	leanIs(t, "REPT(NA(),SUM(A1:A2))", "push #N/A; open 1; scan A1:A2; close; call 52 2; store")
}

func TestRowsAndColumns(t *testing.T) { // Promise 10.1: at how many there are, by any two corners, on any sheet.
	constAt(t, "ROWS(A1:C9)", n(9))
	constAt(t, "COLUMNS(A1:C9)", n(3))
	constAt(t, "ROWS(T!C9:$A$3)", n(7))
	constAt(t, "COLUMNS(T!C9:$B$3)", n(2))
	constAt(t, "ROWS(B2:B2)&COLUMNS(B2:B2)", txt("11"))
	constAt(t, "ROWS(A1:IV65536)", n(api.MaxRows))
	constAt(t, "COLUMNS(A1:IV65536)", n(api.MaxCols))
	constAt(t, "COLUMNS(IV1:A1)-ROWS(A1:A9)", n(247))
	leanIs(t, "A1+ROWS(A1:A9)", "load A1; push 9; bin 11; store")
}

func TestFoldsOfValues(t *testing.T) { // Promise 10.1: at the Result of a fold that is fed the arguments, one behind the other.
	for s, want := range map[string]api.Value{
		`SUM(1,"2",TRUE)`: n(4), `SUM(1,"x",1/0)`: val, `SUM(1,1/0,"x")`: div, `SUM("")`: val, "SUM(1000000000000,1)": num, "SUM(1/3,1/6)": part(1, 2),
		"PRODUCT(2,3,-4)": n(-24), `PRODUCT("1/2")`: part(1, 2), "COUNT(1,\"2\",\"x\",TRUE,#N/A)": n(3), `COUNTA(1,"",#N/A,FALSE)`: n(4),
		"MIN(3,-1,2)": n(-1), "MAX(3,-1,2)": n(3), "MAX(-3,-1)": n(-1), "AVERAGE(1,2)": part(3, 2), "AVERAGE(#REF!)": ref,
		"AND(1,TRUE)": truth(true), "AND(0,1/0)": truth(false), "AND(1/0,0)": div, `AND("x",0)`: val, "OR(0,FALSE)": truth(false), "OR(1,1/0)": truth(true), "OR(0,1/0)": div, "XOR(1,1,1)": truth(true), `XOR("TRUE",1)`: truth(false),
		`CONCAT("a",1,TRUE,"")`: txt("a1TRUE"), `CONCAT("a",#N/A,1/0)`: na, `CONCAT(REPT("x",200),REPT("y",100),1/0)`: long,
		"SUMSQ(3,4)": n(25), "GCD(12,18)": n(6), "GCD(1.5,1/0)": arg, "FIRST(1,2)": n(1), "FIRST(1/0,2)": div, `FIRST("",2)`: txt(""), "LAST(1,2)": n(2), "LAST(1,1/0)": div, "LAST(1/0,\"\")": txt(""),
	} {
		constAt(t, s, want)
	}
	for _, f := range funcs.All() {
		if f.Class != api.ClassFold {
			continue
		}
		acc, _ := funcs.Open(f.Id)
		for range api.MaxArgs {
			acc.Feed(n(1))
		}
		constAt(t, f.Name+"(1"+strings.Repeat(",1", api.MaxArgs-1)+")", acc.Result())
	}
}

func TestFoldsOfBlanks(t *testing.T) { // Promise 10.1: no formula's part is settled at Blank, but a fold that were fed one would pass it over.
	for id, want := range map[int]api.Value{api.FnSum: n(2), api.FnCountA: n(1), api.FnAverage: n(2), api.FnMin: n(2), api.FnAnd: truth(true), api.FnConcat: txt("2"), api.FnFirst: n(2), api.FnLast: n(2)} {
		if got := fold(id, []api.Value{blank, n(2), blank}); got != want {
			t.Errorf("%d of Blank, 2, Blank is %s, not %s", id, shown(got), shown(want))
		}
	}
	if got := fold(api.FnFirst, []api.Value{blank}); got != blank {
		t.Errorf("FIRST of Blank is %s", shown(got))
	}
}

func TestFoldsNotSettled(t *testing.T) { // Promise 10.1: an area, or an argument that is not settled, leaves a fold so, even behind one that ends it.
	for _, f := range funcs.All() {
		if f.Class != api.ClassFold {
			continue
		}
		leanAsEver(t, f.Name+"(A1:A1)")
		leanAsEver(t, f.Name+"(A1)")
		leanAsEver(t, f.Name+"(1,#N/A,A1:B2)")
		leanAsEver(t, f.Name+"(#N/A,A1,1)")
	}
	leanIs(t, "AND(FALSE,A1)", "open 8; push FALSE; feed; load A1; feed; close; store")
	leanIs(t, "SUM(1+1,A1:A2,B1,1/0,T!A1:A2)", "open 1; push 2; feed; scan A1:A2; load B1; feed; push #DIV/0!; feed; scan 1!A1:A2; close; store")
	leanIs(t, "SUM(SUM(1,2),SUM(A1,2),SUM(3,4))", "open 1; push 3; feed; open 1; load A1; feed; push 2; feed; close; feed; push 7; feed; close; store")
}

func TestSearches(t *testing.T) { // Promise 10.1: MATCH, COUNTIF, SUMIF, LOOKUP are settled by a needle that is a Fault, at it.
	for code := api.FaultDiv; code <= api.FaultArg; code++ {
		name := value.Show(bad(code))
		constAt(t, "MATCH("+name+",A1:A9)", bad(code))
		constAt(t, "COUNTIF(A1:A9,"+name+")", bad(code))
		constAt(t, "SUMIF(A1:A9,"+name+")", bad(code))
		constAt(t, "SUMIF(A1:A9,"+name+",T!B1:B9)", bad(code))
		constAt(t, "LOOKUP("+name+",A1:A9,B1:B9)", bad(code))
	}
	constAt(t, `MATCH(-"x",A1:A9)`, val)
	constAt(t, "COUNTIF(A1:A9,NA())", na)
	constAt(t, "SUMIF(A1:A9,INDEX(A1:A2,3))", ref)
	constAt(t, "LOOKUP(MATCH(1/0,B1:B9),A1:A9,B1:B9)", div)
}

func TestSearchesNotSettled(t *testing.T) { // Promise 10.1: with any other needle, and SUMPRODUCT, are not.
	for _, needle := range []string{"1", "0", `""`, `"#N/A"`, `">1"`, "TRUE", "A1"} {
		leanAsEver(t, "MATCH("+needle+",A1:A9)")
		leanAsEver(t, "COUNTIF(A1:A9,"+needle+")")
		leanAsEver(t, "SUMIF(A1:A9,"+needle+")")
		leanAsEver(t, "SUMIF(A1:A9,"+needle+",T!B1:B9)")
		leanAsEver(t, "LOOKUP("+needle+",A1:A9,T!B1:B9)")
	}
	leanAsEver(t, "SUMPRODUCT(A1:A2,T!B1:B2)")
	leanIs(t, "MATCH(1+1,A1:A9)", "open 20; push 2; feed; scan A1:A9; close; store")
	leanIs(t, `COUNTIF(A1:A9,">"&1)`, `open 21; push ">1"; feed; scan A1:A9; close; store`)
	leanIs(t, "SUMIF(A1:A9,IF(TRUE,B1,B2))", "open 22; load B1; feed; scan2 A1:A9 A1:A9; close; store")
	leanIs(t, "SUMIF(A1:A9,-1,T!B9:B1)", "open 22; push -1; feed; scan2 A1:A9 1!B1:B9; close; store")
	leanIs(t, "LOOKUP(ISERROR(NA()),A1:A9,B1:B9)", "open 23; push TRUE; feed; scan2 A1:A9 B1:B9; close; store")
}

func TestIndexWithoutCell(t *testing.T) { // Promise 10.1: INDEX whose numbers tell no cell: at the first Fault, else at #REF!.
	for _, by := range []string{"0", "-1", "5", "1.5", "1/2", "1000000000000", "-1000000000000", `"1"`, `""`, "TRUE", "0,1", "1,0", "3,1", "1,3", "-1,1", "1,-1", "1.5,1", "1,1.5", `"1",1`, `1,"1"`, "TRUE,1", "1,TRUE", "1000000000000,1", "1,1000000000000", "#REF!", "#REF!,#N/A"} {
		constAt(t, "INDEX(A1:B2,"+by+")", ref)
		constAt(t, "INDEX(T!$C$4:B3,"+by+")", ref)
	}
	constAt(t, "INDEX(A1:B2,#N/A)", na)
	constAt(t, "INDEX(A1:B2,1/0,1)", div)
	constAt(t, "INDEX(A1:B2,1,1/0)", div)
	constAt(t, "INDEX(A1:B2,9,1/0)", div)
	constAt(t, "INDEX(A1:B2,1.5,#N/A)", na)
	constAt(t, `INDEX(A1:B2,"x",#N/A)`, na)
	constAt(t, "INDEX(A1:B2,1/0,#N/A)", div)
	constAt(t, "INDEX(A1:B2,#N/A,1/0)", na)
	constAt(t, "INDEX(A1:IV65536,16777217)", ref)
	constAt(t, "INDEX(A1:IV65536,65537,1)", ref)
	constAt(t, "INDEX(A1:IV65536,1,257)", ref)
	// A row or a column beyond the area's own is none, though the sheet has such a cell.
	constAt(t, "INDEX(B2:C9,1,3)", ref)
	constAt(t, "INDEX(B2:C9,9,1)", ref)
	constAt(t, "INDEX(B2:C9,1,0)", ref)
	constAt(t, "INDEX(B2:C9,0,1)", ref)
}

func TestIndexOfCell(t *testing.T) { // Promises 10.1, 10.3: INDEX whose numbers tell a cell is not settled; its code is InsLoad of that.
	for by, cell := range map[string]string{"1": "B2", "2": "C2", "3": "D2", "4": "B3", "6": "D3", "1,1": "B2", "1,3": "D2", "2,1": "B3", "2,3": "D3", "1+1": "C2", "ROWS(A1:A2),-(-2)": "C3", "INT(3.5)": "D2", "IF(1,2,A1),CHOOSE(2,A1,3)": "D3"} {
		leanIs(t, "INDEX(B2:D3,"+by+")", "load "+cell+"; store")
		leanIs(t, "INDEX($D$2:B3,"+by+")", "load "+cell+"; store")
		leanIs(t, "INDEX(T!D3:B2,"+by+")", "load 1!"+cell+"; store")
		leanIs(t, "INDEX(S!B3:D2,"+by+")&1", "load "+cell+"; push 1; bin 16; store")
	}
	leanIs(t, "INDEX(A1:IV65536,16777216)", "load IV65536; store")
	leanIs(t, "INDEX(A1:IV65536,65536,256)", "load IV65536; store")
	leanIs(t, "INDEX(IV65536:IV65536,1)", "load IV65536; store")
}

func TestIndexNotSettled(t *testing.T) { // Promise 10.1: with a number that is not settled it is not, whatever the other one is.
	leanIs(t, "INDEX(A1:B2,A1)", "load A1; pick A1:B2 1; store")
	leanIs(t, "INDEX(A1:B2,A1,1+1)", "load A1; push 2; pick A1:B2 2; store")
	leanIs(t, "INDEX(A1:B2,1/0,A1)", "push #DIV/0!; load A1; pick A1:B2 2; store")
	leanIs(t, "INDEX(A1:B2,9,A1)", "push 9; load A1; pick A1:B2 2; store")
	leanIs(t, "INDEX(T!B2:A1,INDEX(A1:A2,2),INDEX(A1:A2,3))", "load A2; push #REF!; pick 1!A1:B2 2; store")
}
