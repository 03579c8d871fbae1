package lean

import (
	"testing"

	"whittle/api"
)

// The chapter's table of examples, row by row.

func TestExamplesSettled(t *testing.T) {
	constAt(t, "1+2*3", n(7))
	constAt(t, `SUM(1,"2")`, n(3))
	constAt(t, "ROWS(A1:A9)", n(9))
	constAt(t, "NA()", bad(api.FaultNA))
	constAt(t, "INDEX(A1:B2,9)", bad(api.FaultRef))
	constAt(t, "MATCH(1/0,A1:A9)", bad(api.FaultDiv))
}

func TestExamplesNotSettled(t *testing.T) {
	leanIs(t, "A1+(1+2)", "load A1; push 3; bin 11; store")
	leanIs(t, "IF(1>2,A1,B1+0)", "load B1; push 0; bin 11; store")
	leanIs(t, "INDEX(A1:B2,2,1)", "load A2; store")
	leanIs(t, "SUM(A1:A2,1+1)", "open 1; scan A1:A2; push 2; feed; close; store")
	leanIs(t, "IFERROR(1/0,A1)", "load A1; store")
	leanIs(t, "IF(A1,1+1,2)", "load A1; branch 4 5; push 2; jump 5; push 2; store")
}
