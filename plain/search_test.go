package plain

import "testing"

func TestMatch(t *testing.T) { // Promises 13.2, 13.3: the number of the first cell that is the needle; 3 steps, the needle's, the scan's.
	rowsOf(t, fixture(t), `
		MATCH(1,D1:D5) | 1 | 6
		MATCH(2,D1:D5) | 2 | 7
		MATCH(5,D1:D5) | 5 | 10
		MATCH(9,D1:D5) | #N/A | 10
		MATCH(20,D1:E5) | 4 | 9
		MATCH(50,D1:E5) | 10 | 15
		MATCH("x",A1:A9) | 2 | 7
		MATCH("2",A1:A9) | #N/A | 14
		MATCH(12,A1:A9) | #N/A | 14
		MATCH("12",A1:A9) | 7 | 12
		MATCH(0.5,A1:A9) | 6 | 11
		MATCH(TRUE,A1:A9) | 3 | 8
		MATCH(FALSE,A1:A9) | 8 | 13
		MATCH(A9,A1:A9) | 9 | 14
		MATCH(A4,A1:A9) | #N/A | 14
		MATCH("",A1:A9) | #N/A | 14
		MATCH(A5,A1:A9) | #N/A | 6
		MATCH(1/0,A1:IV65536) | #DIV/0! | 8
		MATCH(C1,D1:D5) | #CIRCLE! | 6
		MATCH(A1+1,D1:D5) | 3 | 10
		MATCH(7,T!A1:B2) | 2 | 7
		MATCH(2,A1:B2) | 1 | 6
		MATCH(6,A1:B2) | 2 | 7
		MATCH("xy",Z1:B3) | 51 | 56
		MATCH("xy",A1:Z3) | 54 | 59
		MATCH(1,D1:D1) | 1 | 6
		MATCH(2,D1:D1) | #N/A | 6
		MATCH(1,U!A1:A3) | #N/A | 8
		SUM(MATCH(2,D1:D5),1) | 3 | 12
	`)
}

func TestCountIf(t *testing.T) { // Promises 13.2, 13.3: the cells that meet the needle, over all cells.
	rowsOf(t, fixture(t), `
		COUNTIF(D1:D5,2) | 2 | 10
		COUNTIF(D1:D5,9) | 0 | 10
		COUNTIF(D1:D5,">2") | 2 | 10
		COUNTIF(D1:D5,"<>2") | 3 | 10
		COUNTIF(D1:D5,"<="&A1) | 3 | 12
		COUNTIF(A1:A9,"<>x") | 6 | 14
		COUNTIF(A1:A9,"x") | 1 | 14
		COUNTIF(A1:A9,TRUE) | 1 | 14
		COUNTIF(A1:A9,A4) | 0 | 14
		COUNTIF(A1:A9,A5) | #N/A | 6
		COUNTIF(C1:C9,"<>1") | 0 | 14
		COUNTIF(B1:B6,">=2") | 2 | 11
		COUNTIF(T!A1:B2,7) | 2 | 9
		COUNTIF(U!A1:B2,"") | 0 | 9
		COUNTIF(D1:E5,B5) | #DIV/0! | 6
	`)
}

func TestSumIf(t *testing.T) { // Promises 13.2, 13.3: a step more for each partner; of two arguments the cell is its own partner.
	rowsOf(t, fixture(t), `
		SUMIF(D1:D5,2) | 4 | 12
		SUMIF(D1:D5,">2") | 8 | 12
		SUMIF(D1:D5,9) | 0 | 10
		SUMIF(D1:D5,"<>9") | 13 | 15
		SUMIF(A1:A9,"<>y") | 2.5 | 21
		SUMIF(A1:A9,"x") | 0 | 15
		SUMIF(D1:D5,2,E1:E5) | 60 | 12
		SUMIF(D1:D5,1,E1:E5) | 10 | 11
		SUMIF(D1:D5,5,E1:E5) | 50 | 11
		SUMIF(D1:D5,"<>9",A1:A5) | #N/A | 15
		SUMIF(D1:D5,2,A4:A8) | #N/A | 8
		SUMIF(D1:D5,2,A2:A6) | #N/A | 11
		SUMIF(D1:D5,2,A3:A7) | 0.5 | 12
		SUMIF(D1:D5,3,A4:A8) | 0.5 | 11
		SUMIF(D1:D5,1,A4:A8) | 0 | 11
		SUMIF(D1:D5,5,B1:B5) | #DIV/0! | 11
		SUMIF(D1:D5,2,B1:B5) | 2 | 12
		SUMIF(D1:D5,1,C1:C5) | #CIRCLE! | 7
		SUMIF(D1:D5,A5,E1:E5) | #N/A | 6
		SUMIF(D1:D5,A4,E1:E5) | 0 | 10
		SUMIF(D1:E2,">1",T!A1:B2) | 14 | 12
		SUMIF(D1:E2,">1",A1:B2) | 8 | 12
		SUMIF(C1:C5,"<>1",E1:E5) | 0 | 10
		SUMIF(D1:D5,"<>9",U!A1:A5) | 0 | 15
		SUMIF(D1:D5,2,E3:E7) | 40 | 12
	`)
}

func TestLookup(t *testing.T) { // Promises 13.2, 13.3: the partner of the first cell that is the needle, whatever it is.
	rowsOf(t, fixture(t), `
		LOOKUP(1,D1:D5,E1:E5) | 10 | 7
		LOOKUP(2,D1:D5,E1:E5) | 20 | 8
		LOOKUP(5,D1:D5,E1:E5) | 50 | 11
		LOOKUP(9,D1:D5,E1:E5) | #N/A | 10
		LOOKUP(1,D1:D5,A4:A8) | _ | 7
		LOOKUP(2,D1:D5,A4:A8) | #N/A | 8
		LOOKUP(3,D1:D5,A1:A5) | TRUE | 9
		LOOKUP(2,D1:D5,A1:A5) | "x" | 8
		LOOKUP(1,D1:D5,C1:C5) | #CIRCLE! | 7
		LOOKUP(5,D1:D5,B2:B6) | _ | 11
		LOOKUP("x",A1:A9,A1:A9) | "x" | 8
		LOOKUP(A5,D1:D5,E1:E5) | #N/A | 6
		LOOKUP(B5,D1:D5,E1:E5) | #DIV/0! | 6
		LOOKUP(A4,A1:A9,B1:B9) | #N/A | 14
		LOOKUP(6,A1:B2,D1:E2) | 10 | 8
		LOOKUP(7,T!A1:B2,D1:E2) | 10 | 8
		LOOKUP(2,D1:D5,U!A1:A5) | _ | 8
		LOOKUP(20,D1:E5,T!A1:B5) | _ | 10
		LOOKUP(0,A1:A9,D1:D9) | _ | 15
	`)
}

func TestSumProduct(t *testing.T) { // Promises 13.2, 13.3: 2 steps and the scan's; partners of Numbers alone are taken.
	rowsOf(t, fixture(t), `
		SUMPRODUCT(D1:D5,E1:E5) | 470 | 13
		SUMPRODUCT(D1:D5,D1:D5) | 43 | 13
		SUMPRODUCT(D1:D5,A1:A5) | #N/A | 13
		SUMPRODUCT(D1:D4,A1:A4) | 2 | 11
		SUMPRODUCT(A1:A4,D1:D4) | 2 | 8
		SUMPRODUCT(A1:A5,D1:D5) | #N/A | 9
		SUMPRODUCT(A6:A9,D1:D4) | 0.5 | 9
		SUMPRODUCT(D1:D5,B1:B5) | #DIV/0! | 13
		SUMPRODUCT(B1:B5,D1:D5) | #DIV/0! | 10
		SUMPRODUCT(D1:D5,U!A1:A5) | 0 | 13
		SUMPRODUCT(U!A1:A5,D1:D5) | 0 | 8
		SUMPRODUCT(C1:C5,D1:D5) | #CIRCLE! | 4
		SUMPRODUCT(D1:D5,C1:C5) | #CIRCLE! | 5
		SUMPRODUCT(D1:E2,T!A1:B2) | 89 | 11
		SUMPRODUCT(T!A1:B2,D1:E2) | 89 | 10
	`)
}
