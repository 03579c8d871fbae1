package plain

import "testing"

func TestIf(t *testing.T) { // Promises 13.2, 13.3: what the condition doesn't come to is not come to.
	rowsOf(t, fixture(t), `
		IF(TRUE,1,2) | 1 | 5
		IF(FALSE,1,2) | 2 | 4
		IF(TRUE,1) | 1 | 5
		IF(FALSE,1) | FALSE | 4
		IF(A4,1,2) | 2 | 4
		IF(A4,1) | FALSE | 4
		IF(A1,1,2) | 1 | 5
		IF(A9,1,2) | 2 | 4
		IF(A6,1) | 1 | 5
		IF(A2,1,2) | #VALUE! | 3
		IF("TRUE",1,2) | 1 | 5
		IF("FALSE",1) | FALSE | 4
		IF("true",1,2) | #VALUE! | 3
		IF(A2,1) | #VALUE! | 3
		IF(A5,1,2) | #N/A | 3
		IF(A5,1) | #N/A | 3
		IF(C1,1,2) | #CIRCLE! | 3
		IF(A1>1,B1,B2) | 6 | 7
		IF(A1>9,B1,B2) | 2 | 6
		IF(A1>9,B1) | FALSE | 6
		IF(TRUE,1+1,1/0) | 2 | 7
		IF(FALSE,1/0,1+1) | 2 | 6
		IF(TRUE,SUM(D1:D5),SUM(A1:IV65536)) | 13 | 11
		IF(FALSE,SUM(A1:IV65536),SUM(D1:D5)) | 13 | 10
		IF(FALSE,SUM(A1:IV65536)) | FALSE | 4
		IF(TRUE,A5,1) | #N/A | 5
		IF(IF(FALSE,1),2,3) | 3 | 6
		IF(TRUE,IF(FALSE,1)) | FALSE | 7
		1+IF(TRUE,1,2) | 2 | 7
		IF(A1,A4,1) | _ | 5
	`)
}

func TestIfError(t *testing.T) { // Promises 13.2, 13.3: the second one, and its steps, just if the first one is a Fault.
	rowsOf(t, fixture(t), `
		IFERROR(1,2) | 1 | 3
		IFERROR(A4,2) | _ | 3
		IFERROR(A2,2) | "x" | 3
		IFERROR(A5,2) | 2 | 4
		IFERROR(1/0,A1+1) | 3 | 8
		IFERROR(C1,A1) | 2 | 4
		IFERROR(A5,B5) | #DIV/0! | 4
		IFERROR(SUM(A1:A9),SUM(D1:D5)) | 13 | 16
		IFERROR(SUM(D1:D5),SUM(A1:IV65536)) | 13 | 9
		IFERROR(IFERROR(A5,B5),7) | 7 | 6
		IFERROR(A3,A5) | TRUE | 3
	`)
}

func TestChoose(t *testing.T) { // Promises 13.2, 13.3: a step more for each argument but the last one.
	rowsOf(t, fixture(t), `
		CHOOSE(1,5,6,7) | 5 | 5
		CHOOSE(2,5,6,7) | 6 | 5
		CHOOSE(3,5,6,7) | 7 | 4
		CHOOSE(1,5) | 5 | 4
		CHOOSE(2,5) | #ARG! | 3
		CHOOSE(4,5,6,7) | #ARG! | 3
		CHOOSE(0,5,6,7) | #ARG! | 3
		CHOOSE(-1,5,6,7) | #ARG! | 4
		CHOOSE(A6,5,6,7) | #ARG! | 3
		CHOOSE(1000000000000,5) | #ARG! | 3
		CHOOSE(A4,5,6) | #ARG! | 3
		CHOOSE(A1,5,6,7) | 6 | 5
		CHOOSE("2",5,6) | 6 | 4
		CHOOSE(A3,5,6) | 5 | 5
		CHOOSE(A8,5,6) | #ARG! | 3
		CHOOSE(A2,5,6) | #VALUE! | 3
		CHOOSE(A5,5,6) | #N/A | 3
		CHOOSE(C1,5,6) | #CIRCLE! | 3
		CHOOSE(1+A1,5,6,7) | 7 | 6
		CHOOSE(1,A5,6) | #N/A | 5
		CHOOSE(2,1/0,A4) | _ | 4
		CHOOSE(1,SUM(D1:D5),SUM(A1:IV65536)) | 13 | 11
		CHOOSE(2,SUM(A1:IV65536),SUM(D1:D5)) | 13 | 10
		CHOOSE(CHOOSE(2,3,1),5,6) | 5 | 7
	`)
}
