package lean

import (
	"fmt"
	"strings"
	"testing"

	"whittle/api"
)

func TestIfSettled(t *testing.T) { // Promise 10.1: IF with a condition that is settled.
	for _, yes := range []string{"TRUE", "1", "-0.5", `"TRUE"`, "1=1", "NOT(FALSE)"} {
		constAt(t, "IF("+yes+",1+1,A1)", n(2))
		constAt(t, "IF("+yes+",1/0,A1)", div)
		constAt(t, "IF("+yes+",3)", n(3))
		leanIs(t, "IF("+yes+",A1,2)", "load A1; store")
		leanIs(t, "IF("+yes+",A1+(1+1))", "load A1; push 2; bin 11; store")
	}
	for _, no := range []string{"FALSE", "0", "1-1", `"FALSE"`, "1=2"} {
		constAt(t, "IF("+no+",A1,1+1)", n(2))
		constAt(t, "IF("+no+",A1,1/0)", div)
		constAt(t, "IF("+no+",A1)", truth(false))
		constAt(t, "IF("+no+",1/0)", truth(false))
		leanIs(t, "IF("+no+",2,A1)", "load A1; store")
		leanIs(t, "IF("+no+",2,SUM(A1:A2,1+1))", "open 1; scan A1:A2; push 2; feed; close; store")
	}
	for fault, want := range map[string]api.Value{"#N/A": na, "1/0": div, `"x"`: val, `"true"`: val, `""`: val, `"1"`: val, "INDEX(A1:A2,3)": ref} {
		constAt(t, "IF("+fault+",1,2)", want)
		constAt(t, "IF("+fault+",A1,B1)", want)
		constAt(t, "IF("+fault+",A1)", want)
	}
}

func TestIfNotSettled(t *testing.T) { // Promises 10.1, 10.3: with a condition that is not, it is not, though both ways come to one value.
	leanIs(t, "IF(A1,1,1)", "load A1; branch 4 5; push 1; jump 5; push 1; store")
	leanIs(t, "IF(A1,1+1)", "load A1; branch 4 5; push 2; jump 5; push FALSE; store")
	leanIs(t, "IF(A1>1+1,SUM(1,2),B1)", "load A1; push 2; bin 25; branch 6 7; push 3; jump 7; load B1; store")
	leanIs(t, "IF(A1,IF(TRUE,B1+1,C1),IF(FALSE,B1,2))", "load A1; branch 6 7; load B1; push 1; bin 11; jump 7; push 2; store")
	leanIs(t, "IF(IF(A1,1),IF(B1,2,3),IF(C1,4,5))", "load A1; branch 4 5; push 1; jump 5; push FALSE; branch 12 17; load B1; branch 10 11; push 2; jump 11; push 3; jump 17; load C1; branch 16 17; push 4; jump 17; push 5; store")
}

func TestIfErrorSettled(t *testing.T) { // Promise 10.1: IFERROR with a first argument that is settled.
	for first, want := range map[string]api.Value{"1": n(1), "1+1": n(2), `""`: txt(""), `"#N/A"`: txt("#N/A"), "FALSE": truth(false), "-1": n(-1)} {
		constAt(t, "IFERROR("+first+",A1)", want)
		constAt(t, "IFERROR("+first+",7)", want)
		constAt(t, "IFERROR("+first+",#N/A)", want)
	}
	for _, first := range []string{"#N/A", "1/0", "NA()", "MATCH(#N/A,A1:A2)", "IF(\"x\",A1)"} {
		constAt(t, "IFERROR("+first+",1+1)", n(2))
		constAt(t, "IFERROR("+first+",#REF!)", ref)
		leanIs(t, "IFERROR("+first+",A1)", "load A1; store")
		leanIs(t, "IFERROR("+first+",-A1&(1+1))", "load A1; un 1; push 2; bin 16; store")
	}
}

func TestIfErrorNotSettled(t *testing.T) { // Promises 10.1, 10.3.
	leanIs(t, "IFERROR(A1,1+1)", "load A1; guard 3; push 2; store")
	leanIs(t, "IFERROR(A1,A1)", "load A1; guard 3; load A1; store")
	leanIs(t, "IFERROR(A1+(1+1),IFERROR(1/0,B1))", "load A1; push 2; bin 11; guard 5; load B1; store")
	leanIs(t, "IFERROR(IFERROR(A1,1),IFERROR(2,B1))", "load A1; guard 3; push 1; guard 5; push 2; store")
}

func TestChooseSettled(t *testing.T) { // Promise 10.1: CHOOSE at each number, at 0, beyond the last, not whole, at a Fault.
	for k := 1; k <= 3; k++ {
		for _, form := range []string{"%d", `"%d"`, "%d+0", `"%d/1"`} {
			first := fmt.Sprintf(form, k)
			constAt(t, "CHOOSE("+first+",5,6,7)", n(4+k))
			all := []string{"A1", "B1", "C1"}
			leanIs(t, "CHOOSE("+first+","+strings.Join(all, ",")+")", "load "+all[k-1]+"; store")
			// The chosen one alone is asked for.
			all[k-1] = "1+1"
			constAt(t, "CHOOSE("+first+","+strings.Join(all, ",")+")", n(2))
		}
	}
	for _, none := range []string{"0", "4", "-1", "FALSE", "1.5", "1/3", "1000000000000", `"4"`, `"1.5"`} {
		constAt(t, "CHOOSE("+none+",A1,B1,C1)", arg)
		constAt(t, "CHOOSE("+none+",5,6,7)", arg)
	}
	for fault, want := range map[string]api.Value{"#N/A": na, "1/0": div, `"x"`: val, `""`: val, `"TRUE"`: val} {
		constAt(t, "CHOOSE("+fault+",A1,B1)", want)
		constAt(t, "CHOOSE("+fault+",5)", want)
	}
	constAt(t, "CHOOSE(TRUE,5,A1)", n(5))
	constAt(t, "CHOOSE(1,5)", n(5))
	constAt(t, "CHOOSE(2,5)", arg)
	constAt(t, "CHOOSE(1,1/0,A1)", div)
	constAt(t, "CHOOSE(29"+strings.Repeat(",A1", 28)+",5)", n(5))
	leanIs(t, "CHOOSE(29"+strings.Repeat(",5", 28)+",A1)", "load A1; store")
	constAt(t, "CHOOSE(30"+strings.Repeat(",A1", 29)+")", arg)
}

func TestChooseNotSettled(t *testing.T) { // Promises 10.1, 10.3.
	leanIs(t, "CHOOSE(A1,5,5)", "load A1; choose [2 4] 5; push 5; jump 5; push 5; store")
	leanIs(t, "CHOOSE(A1,1+1)", "load A1; choose [2] 3; push 2; store")
	leanIs(t, "CHOOSE(A1,CHOOSE(2,B1,C1),CHOOSE(0,B1),CHOOSE(B1,1+1,C1))&1", "load A1; choose [2 4 6] 11; load C1; jump 11; push #ARG!; jump 11; load B1; choose [8 10] 11; push 2; jump 11; load C1; push 1; bin 16; store")
}

func TestOneInTheOther(t *testing.T) { // Promise 10.1: what is settled within what is, and within what is not.
	constAt(t, "IF(IF(1,0,A1),A1,IFERROR(CHOOSE(3,A1,B1),IF(ISERROR(INDEX(A1:A2,3)),SUM(1,2),A1)))", n(3))
	constAt(t, "CHOOSE(IFERROR(MATCH(1/0,A1:A9),2),A1,ROWS(A1:A9)*COLUMNS(B1:C9),B1)", n(18))
	constAt(t, "SUM(IF(TRUE,1,A1),IFERROR(NA(),2),CHOOSE(2,A1,3),-ABS(-4))", n(2))
	constAt(t, "IFERROR(IFERROR(IFERROR(1/0,NA()),#REF!),CONCAT(\"a\",IF(0,A1)))", txt("aFALSE"))
	leanIs(t, "MATCH(IF(1,1/0,A1),B1:B9)+A9*0", "push #DIV/0!; load A9; push 0; bin 13; bin 11; store")
	leanIs(t, "-IF(TRUE,IFERROR(NA(),CHOOSE(2,1,INDEX(A1:B2,2))),3)+MAX(1,2)", "load B1; un 1; push 2; bin 11; store")
	leanIs(t, "IF(A1,IF(1,IF(B1,2*3,4)),ROWS(A1:A9))", "load A1; branch 8 9; load B1; branch 6 7; push 6; jump 7; push 4; jump 9; push 9; store")
}
