package plain

import (
	"fmt"
	"testing"

	"whittle/api"
	"whittle/funcs"
)

func TestFoldsOfValues(t *testing.T) { // Promises 13.2, 13.3: values are fed; 2 steps, and for each its own and 1.
	rowsOf(t, fixture(t), `
		SUM(1) | 1 | 5
		SUM(A1,"3",TRUE) | 6 | 9
		SUM(A1,A2) | #VALUE! | 7
		PRODUCT(A1,3,A6) | 3 | 9
		COUNT(A1,A2,A7,A4,A5) | 2 | 13
		COUNTA(A1,A2,A7,A4,A5) | 4 | 13
		MIN(A1,A6,"0.25") | 0.25 | 9
		MAX(A1,A6,"7") | 7 | 9
		AVERAGE(A1,A4,4) | 3 | 9
		AVERAGE(A4) | #DIV/0! | 5
		AND(A1,A3) | TRUE | 7
		AND(A1,A8) | FALSE | 7
		AND(A2) | #VALUE! | 5
		OR(A8,A9) | FALSE | 7
		OR(A8,A1) | TRUE | 7
		XOR(A1,A3,A8) | FALSE | 9
		CONCAT(A1,A2,A4,A3) | "2xTRUE" | 11
		SUMSQ(A1,3) | 13 | 7
		GCD(B1,9) | 3 | 7
		GCD(A6) | #ARG! | 5
		FIRST(A4,A2,A1) | "x" | 9
		FIRST(A4) | _ | 5
		LAST(A2,A1,A4) | 2 | 9
		LAST(A4) | _ | 5
		SUM(A5) | #N/A | 5
		SUM(A1+1,-A6) | 2.5 | 10
	`)
}

func TestFoldsOfAreas(t *testing.T) { // Promises 13.2, 13.3: cells by Cell, in their order; as many steps as are taken.
	rowsOf(t, fixture(t), `
		SUM(D1:D5) | 13 | 8
		SUM(D1:E5) | 163 | 13
		SUM(E5:D1) | 163 | 13
		SUM(A1:A4) | 2 | 7
		SUM(A1:A9) | #N/A | 8
		SUM(A6:A9) | 0.5 | 7
		SUM(B1:B6) | #DIV/0! | 8
		SUM(C1:C9) | #CIRCLE! | 4
		SUM(T!A1:B2) | 19 | 7
		PRODUCT(D1:D5) | 60 | 8
		COUNT(A1:A9) | 3 | 12
		COUNTA(A1:A9) | 8 | 12
		COUNTA(B1:B6) | 5 | 9
		MIN(D1:E5) | 1 | 13
		MAX(D1:E5) | 50 | 13
		MAX(A2:A4) | 0 | 6
		AVERAGE(D1:D5) | 2.6 | 8
		AVERAGE(A2:A4) | #DIV/0! | 6
		AND(A1:A4) | TRUE | 7
		AND(A6:A9) | FALSE | 6
		AND(D1:D5) | TRUE | 8
		OR(A1:A9) | TRUE | 4
		OR(A8:A9) | FALSE | 5
		XOR(A1:A3) | FALSE | 6
		CONCAT(A1:A4) | "2xTRUE" | 7
		CONCAT(A1:A9) | #N/A | 8
		CONCAT(B1:B4) | "62xyTRUE" | 7
		SUMSQ(D1:D3) | 14 | 6
		GCD(E1:E5) | 10 | 8
		GCD(A1:A9) | #N/A | 8
		GCD(A6:A9) | #ARG! | 4
		FIRST(A4:A9) | #N/A | 5
		FIRST(D1:D5) | 1 | 4
		FIRST(B6:B9) | _ | 7
		LAST(D1:D9) | 5 | 12
		LAST(A1:A5) | #N/A | 8
		SUM(A1:A1) | 2 | 4
		SUM(A4:A4) | 0 | 4
	`)
}

func TestFoldsOfBoth(t *testing.T) { // Promises 13.2, 13.3: from the left; all arguments are come to, behind a fold that is Full too, but a scan takes 1 step then.
	rowsOf(t, fixture(t), `
		SUM(A1,D1:D5,"3") | 18 | 12
		SUM(D1:D5,A7) | 25 | 10
		SUM(D1:D2,E1:E2,D3:D5) | 43 | 10
		SUM(D1:D5,D1:D5) | 26 | 13
		SUM(A2,D1:D5) | #VALUE! | 6
		SUM(A5,D1:D5,1+1) | #N/A | 10
		SUM(B5,A5,D1:IV9999) | #DIV/0! | 8
		SUM(A1:A9,D1:D5,C1:C9) | #N/A | 10
		SUM(D1:D5,A1:A9,C1) | #N/A | 15
		FIRST(A4:A4,D1:D5,E1:E5) | 1 | 6
		FIRST(A4,A4:A4,A2,D1:D5) | "x" | 9
		LAST(D1:D5,A4,A4:A4) | 5 | 11
		AND(A1:A3,A8,D1:D5) | FALSE | 9
		CONCAT(A2,D1:D5,"-",E1:E2) | "x12325-1020" | 14
		COUNT(A2,A7,A1:A9,A5) | 4 | 18
		COUNTA(1/0,A1:A9) | 9 | 16
	`)
}

func TestFoldsInFolds(t *testing.T) { // Promises 13.2, 13.3.
	rowsOf(t, fixture(t), `
		SUM(SUM(1,2),SUM(D1:D5)) | 16 | 18
		SUM(MAX(D1:D5),MIN(E1:E5),D1:D2) | 18 | 21
		COUNTA(SUM(A1:A9),SUM(A1:A9)) | 2 | 19
		SUM(SUM(A1:A9),D1:D5) | #N/A | 12
		MAX(COUNTIF(D1:D5,2),MATCH(5,D1:D5),1) | 5 | 25
		CONCAT(FIRST(A2:A3),LAST(D1:D5)) | "x5" | 15
		SUM(IF(A3,SUM(D1:D5),9),1) | 14 | 16
	`)
}

func TestEveryFold(t *testing.T) { // Promise 13.2: each fold takes what is fed, and what cells hold, as chapter 7 says.
	p := values(t, "A1", "4", "A3", "6", "B1", "TRUE", "B3", "8")
	for _, f := range funcs.All() {
		if f.Class != api.ClassFold {
			continue
		}
		acc, _ := funcs.Open(f.Id)
		steps := 2
		scan := func(vs ...api.Value) {
			k := 0
			for k < len(vs) && !acc.Full() {
				acc.Cell(vs[k])
				k++
			}
			steps += max(k, 1)
		}
		acc.Feed(n(12))
		steps += 2
		scan(n(4), truth(true), blank, blank, n(6), n(8))
		acc.Feed(txt("2"))
		steps += 2
		scan(n(4), blank, n(6), blank)
		evals(t, p, fmt.Sprintf("%s(12,A1:B3,\"2\",A1:A4)", f.Name), shown(acc.Result()), steps+1)
	}
}

func TestFullScans(t *testing.T) { // Promise 13.3: Full ahead of the first cell 1 step, at it 1, at the last one all.
	rowsOf(t, fixture(t), `
		OR(A3,D1:D5) | TRUE | 6
		OR(D1:D5) | TRUE | 4
		OR(A8:A9,D1:D5) | TRUE | 6
		AND(D1:D5,A1:A3,A8:A8) | FALSE | 12
		SUM(D1:D5,A4:A5) | #N/A | 10
		SUM(D1:D5,A3:A5,E1:E5) | #N/A | 12
		FIRST(A4:A5) | #N/A | 5
		FIRST(A4:A5,A1) | #N/A | 7
		FIRST(Z1:Z9,A4:A4,A1) | 2 | 15
	`)
}
