package plain

import (
	"strings"
	"testing"

	"whittle/api"
	"whittle/funcs"
)

// fixture is a book with something of every kind: constants in A, formulas in B, cyclic ones in C, numbers in D and E, and another sheet.
func fixture(t *testing.T) *Values {
	t.Helper()
	return values(t,
		"A1", "2", "A2", "x", "A3", "TRUE", "A5", "#N/A", "A6", "1/2", "A7", "'12", "A8", "FALSE", "A9", "0",
		"B1", "=A1*3", "B2", "=SUM(A1:A4)", "B3", "=A2&\"y\"", "B4", "=A1>1", "B5", "=1/0", "B6", "=A4",
		"C1", "=C2", "C2", "=C1", "C3", "=C1+1",
		"D1", "1", "D2", "2", "D3", "3", "D4", "2", "D5", "5", "E1", "10", "E2", "20", "E3", "30", "E4", "40", "E5", "50",
		"T!A1", "5", "T!A2", "=S!A1+A1", "T!B1", "=A2")
}

func TestValuesAndCells(t *testing.T) { // Promises 13.2, 13.3: a value is itself, a cell its value, each in 1 step, and 1 for the whole.
	rowsOf(t, fixture(t), `
		7 | 7 | 2
		0.25 | 0.25 | 2
		"a""b" | "a\"b" | 2
		"" | "" | 2
		TRUE | TRUE | 2
		FALSE | FALSE | 2
		#N/A | #N/A | 2
		#CIRCLE! | #CIRCLE! | 2
		A1 | 2 | 2
		$A$2 | "x" | 2
		A3 | TRUE | 2
		A4 | _ | 2
		A5 | #N/A | 2
		B1 | 6 | 2
		B3 | "xy" | 2
		B5 | #DIV/0! | 2
		B6 | _ | 2
		C1 | #CIRCLE! | 2
		C3 | #CIRCLE! | 2
		S!A1 | 2 | 2
		T!A1 | 5 | 2
		T!A2 | 7 | 2
		T!B1 | 7 | 2
		U!A1 | _ | 2
		Z99 | _ | 2
		IV65536 | _ | 2
	`)
}

func TestOperations(t *testing.T) { // Promises 13.2, 13.3: value.Un, value.Bin of the parts, in their steps and 1.
	rowsOf(t, fixture(t), `
		-A1 | -2 | 3
		+A2 | "x" | 3
		-A2 | #VALUE! | 3
		A1% | 0.02 | 3
		-A5 | #N/A | 3
		A1+A6 | 2.5 | 4
		A1-A6 | 1.5 | 4
		A1*A6 | 1 | 4
		A6/A1 | 0.25 | 4
		A1/A4 | #DIV/0! | 4
		A1^A1 | 4 | 4
		A1^A6 | #NUM! | 4
		A2&A1 | "x2" | 4
		A1=2 | TRUE | 4
		A1<>2 | FALSE | 4
		A1<A6 | FALSE | 4
		A1<=A1 | TRUE | 4
		A1>A6 | TRUE | 4
		A1>=3 | FALSE | 4
		A4=0 | TRUE | 4
		A4="" | TRUE | 4
		A5+B5 | #N/A | 4
		B5+A5 | #DIV/0! | 4
		A1+A2 | #VALUE! | 4
		1000000000000*A1 | #NUM! | 4
		A1-1-1 | 0 | 6
		A1-(1-1) | 2 | 6
		-(A1+B1)*T!A1 | -40 | 7
		C1+1 | #CIRCLE! | 4
	`)
}

func TestScalars(t *testing.T) { // Promises 13.2, 13.3: funcs.Apply of the arguments, in their steps and 1.
	rowsOf(t, fixture(t), `
		ABS(-A1) | 2 | 4
		SIGN(A6) | 1 | 3
		INT(A6) | 0 | 3
		NOT(A3) | FALSE | 3
		LEN(B3) | 2 | 3
		UPPER(A2) | "X" | 3
		LOWER("Ab") | "ab" | 3
		TRIM("  a  b ") | "a b" | 3
		VALUE(A7) | 12 | 3
		ISNUMBER(A1) | TRUE | 3
		ISTEXT(A7) | TRUE | 3
		ISBLANK(A4) | TRUE | 3
		ISBLANK(B6) | TRUE | 3
		ISERROR(A5) | TRUE | 3
		ISERROR(C1) | TRUE | 3
		MOD(7,A1) | 1 | 4
		QUOTIENT(7,A1) | 3 | 4
		QUOTIENT(7,A4) | #DIV/0! | 4
		POWER(A1,3) | 8 | 4
		REPT(A2,3) | "xxx" | 4
		REPT(A2,300) | #LONG! | 4
		FIND("y",B3) | 2 | 4
		FIND("z",B3) | #N/A | 4
		ROUND(A6) | 1 | 3
		ROUND(0.26,1) | 0.3 | 4
		LEFT(B3) | "x" | 3
		LEFT("abc",A1) | "ab" | 4
		RIGHT(B3) | "y" | 3
		RIGHT("abc",A1) | "bc" | 4
		MID("abc",A1,1) | "b" | 5
		MID("abc",0,1) | #ARG! | 5
		NA() | #N/A | 2
		LEN(A5) | #N/A | 3
		LEN(NA()) | #N/A | 3
		ABS(A2) | #VALUE! | 3
		MOD(A2,A5) | #N/A | 4
		LEN(REPT(UPPER(A2),B1+1)) | 7 | 8
	`)
}

func TestEveryScalar(t *testing.T) { // Promise 13.2: none of the scalars is another one's; with each number of arguments.
	p := fixture(t)
	for _, f := range funcs.All() {
		if f.Class != api.ClassScalar {
			continue
		}
		for args := f.Least; args <= f.Most; args++ {
			l := strings.Split("A1 A7 1", " ")[:args]
			s := f.Name + "(" + strings.Join(l, ",") + ")"
			want := funcs.Apply(f.Id, []api.Value{n(2), txt("12"), n(1)}[:args]...)
			evals(t, p, s, shown(want), args+2)
		}
	}
}

func TestRowsAndColumns(t *testing.T) { // Promises 13.2, 13.3: how many there are, whatever the cells hold, in 1 step.
	rowsOf(t, fixture(t), `
		ROWS(A1:B9) | 9 | 2
		COLUMNS(A1:B9) | 2 | 2
		ROWS(B9:A1) | 9 | 2
		COLUMNS(B9:A1) | 2 | 2
		ROWS(C1:C1) | 1 | 2
		COLUMNS(T!$C$1:C1) | 1 | 2
		ROWS(A1:IV65536) | 65536 | 2
		COLUMNS(A1:IV65536) | 256 | 2
		ROWS(A1:B9)*COLUMNS(A1:B9) | 18 | 4
		SUM(ROWS(C1:C9),COLUMNS(A5:B5)) | 11 | 7
	`)
}

func TestIndex(t *testing.T) { // Promises 13.2, 13.3: the value of the cell that 9.2 tells, else the first fault, else #REF!; the steps of the numbers, and 1.
	rowsOf(t, fixture(t), `
		INDEX(D1:E5,1) | 1 | 3
		INDEX(D1:E5,2) | 10 | 3
		INDEX(D1:E5,10) | 50 | 3
		INDEX(D1:E5,11) | #REF! | 3
		INDEX(D1:E5,0) | #REF! | 3
		INDEX(D1:E5,-1) | #REF! | 4
		INDEX(D1:E5,A6) | #REF! | 3
		INDEX(D1:E5,A1) | 10 | 3
		INDEX(E5:D1,2) | 10 | 3
		INDEX(D1:E5,3,2) | 30 | 4
		INDEX(D1:E5,5,1) | 5 | 4
		INDEX(D1:E5,6,1) | #REF! | 4
		INDEX(D1:E5,1,3) | #REF! | 4
		INDEX(D1:E5,0,1) | #REF! | 4
		INDEX(D1:E5,1,0) | #REF! | 4
		INDEX(D1:E5,-1,-1) | #REF! | 6
		INDEX(D1:E5,1,A6) | #REF! | 4
		INDEX(D1:E5,"1") | #REF! | 3
		INDEX(D1:E5,A7) | #REF! | 3
		INDEX(D1:E5,TRUE) | #REF! | 3
		INDEX(D1:E5,A4) | #REF! | 3
		INDEX(D1:E5,"1",1) | #REF! | 4
		INDEX(D1:E5,1,TRUE) | #REF! | 4
		INDEX(D1:E5,A5) | #N/A | 3
		INDEX(D1:E5,A5,1) | #N/A | 4
		INDEX(D1:E5,1,A5) | #N/A | 4
		INDEX(D1:E5,99,A5) | #N/A | 4
		INDEX(D1:E5,"x",B5) | #DIV/0! | 4
		INDEX(D1:E5,A5,B5) | #N/A | 4
		INDEX(D1:E5,B5,A5) | #DIV/0! | 4
		INDEX(D1:E5,C1,1) | #CIRCLE! | 4
		INDEX(A1:C9,4,1) | _ | 4
		INDEX(A1:C9,5,1) | #N/A | 4
		INDEX(A1:C9,1,3) | #CIRCLE! | 4
		INDEX(A1:C9,3,2) | "xy" | 4
		INDEX(T!A1:B2,2,1) | 7 | 4
		INDEX(U!A1:B2,2) | _ | 3
		INDEX(A1:IV65536,65536,256) | _ | 4
		INDEX(A1:IV65536,16777216) | _ | 3
		INDEX(A1:IV65536,16777217) | #REF! | 3
		INDEX(D1:E5,A1+1,1+1) | 30 | 8
		INDEX(D1:D5,INDEX(D1:D5,3)) | 3 | 4
		INDEX(D1:E5,1000000000000,1000000000000) | #REF! | 4
	`)
}

func TestOtherSheets(t *testing.T) { // Promise 13.2: sheets are numbered by the names handed in; what the book hasn't is Blank.
	p := fixture(t)
	at := func(s string, home api.Cell, want api.Value, steps int, sheets ...string) {
		t.Helper()
		if v, got, why := p.Eval(row(t, s), home, sheets...); v != want || got != steps || why != api.OK {
			t.Errorf("Eval(%s) in %v of %q: %s in %d steps, %d; want %s in %d", s, home, sheets, shown(v), got, why, shown(want), steps)
		}
	}
	at("A1", api.Cell{}, n(2), 2, "S")
	at("A1", api.Cell{Sheet: 1}, n(5), 2, "S", "T")
	at("A1", api.Cell{Sheet: 2}, blank, 2, "S", "T", "U")
	at("A1", api.Cell{Sheet: 3}, blank, 2, "S", "T", "U", "V")
	at("V!A1", api.Cell{}, blank, 2, "S", "T", "U", "V")
	at("V!A1", api.Cell{}, n(5), 2, "S", "V")
	at("T!A1+S!A2", api.Cell{}, n(9), 4, "T", "S")
	at("S!A1", api.Cell{Sheet: 1}, n(2), 2, "S", "S")
	at("S!A1", api.Cell{}, n(5), 2, "", "S", "S")
	at("A1", api.Cell{Sheet: 1}, n(5), 2, "S", "S")
	at("COUNTA(V!A1:IV65536,A1)", api.Cell{}, n(1), 1<<24+5, "S", "T", "U", "V")
	at("SUMIF(T!A1:A2,\">0\",V!A1:A2)", api.Cell{}, n(0), 9, "S", "T", "U", "V")
	at("SUMPRODUCT(V!A1:A2,T!A1:A2)", api.Cell{}, n(0), 5, "S", "T", "U", "V")
	at("MATCH(5,V!A1:A9)", api.Cell{}, bad(api.FaultNA), 14, "S", "T", "U", "V")
	at("INDEX(V!A1:A9,3)", api.Cell{}, blank, 3, "S", "T", "U", "V")
	var many []string
	for i := range api.MaxSheets + 3 {
		many = append(many, string(rune('a'+i)))
	}
	at("b!A1", api.Cell{}, n(5), 2, many...)
	at("p!A1", api.Cell{}, blank, 2, many...)
	at("A1", api.Cell{Sheet: 15}, blank, 2, many...)
	at("a!A1", api.Cell{Sheet: 15}, n(2), 2, many...)
	if _, _, why := p.Eval(row(t, "q!A1"), api.Cell{}, many...); why != api.ErrSheet {
		t.Error("the sheet number MaxSheets is taken:", why)
	}
}

func TestHomeTurnsNothing(t *testing.T) { // Promise 13.2: what stands in the home itself is a value like others.
	p := fixture(t)
	for _, x := range []struct {
		s, home, want string
		steps         int
	}{
		{"A1+1", "A1", "3", 4}, {"B1+1", "B1", "7", 4}, {"C1", "C1", "#CIRCLE!", 2}, {"SUM(D1:D9)", "D3", "13", 12}, {"A1", "IV65536", "2", 2}, {"A1", "T!A1", "5", 2}, {"A1", "U!Z9", "_", 2}, {"IFERROR(C3,9)", "C3", "9", 4},
	} {
		if v, steps, why := p.Eval(row(t, x.s), at(x.home), names...); shown(v) != x.want || steps != x.steps || why != api.OK {
			t.Errorf("Eval(%s) in %s: %s in %d steps, %d", x.s, x.home, shown(v), steps, why)
		}
	}
}

func TestDeepAndLong(t *testing.T) { // Promises 13.2, 13.3, R1: as deep, and of as many nodes, as may be.
	p := fixture(t)
	evals(t, p, strings.Repeat("-", api.MaxDeep-1)+"A1", "-2", api.MaxDeep+1)
	evals(t, p, strings.Repeat("SUM(", api.MaxDeep-2)+"A1:A2"+strings.Repeat(",1)", api.MaxDeep-2), "32", 6+29*5+1)
	sums := "SUM(A1" + strings.Repeat(",A1", 29) + ")" // 31 nodes, 62 steps
	evals(t, p, "SUM("+strings.Repeat(sums+",", 8)+"1,1,1,1,1,1,1)", "487", 2+8*63+7*2+1)
	evals(t, p, "CHOOSE(29"+strings.Repeat(",1/0", 28)+",T!A1)", "5", 4)
	evals(t, p, "CHOOSE(28"+strings.Repeat(",1", 27)+",8,1/0)", "8", 5)
}
