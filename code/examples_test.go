package code

import (
	"testing"

	"whittle/api"
)

// The chapter's table of examples, row by row: sheets S, T; home in S.

func TestExamples(t *testing.T) {
	for _, x := range []struct {
		formula, want string
		least, most   int
	}{
		{"A1+2", "load A1; push 2; bin 11; store", 4, 4},
		{"SUM(A1:B2,1)", "open 1; scan A1:B2; push 1; feed; close; store", 6, 9},
		{"IF(T!A1,1)", "load 1!A1; branch 4 5; push 1; jump 5; push FALSE; store", 3, 5},
		{"IFERROR(A1,2)", "load A1; guard 3; push 2; store", 3, 4},
		{"CHOOSE(A1,5,6)", "load A1; choose [2 4] 5; push 5; jump 5; push 6; store", 3, 5},
		{"LOOKUP(1,A1:A3,B1:B3)", "open 23; push 1; feed; scan2 A1:A3 B1:B3; close; store", 6, 11},
		{"ROWS(A1:B9)", "push 9; store", 2, 2},
	} {
		l := flat(t, x.formula)
		if got := told(l); got != x.want {
			t.Fatalf("%s is %s, not %s", x.formula, got, x.want)
		}
		bounded(t, l, x.least, x.most)
	}
	using(t, flat(t, "ROWS(A1:B9)"))
}

func TestExamplesRefused(t *testing.T) {
	for _, x := range []struct {
		formula string
		why     api.Errno
	}{
		{"A1:B2", api.ErrArea}, {"A1:B2+1", api.ErrArea}, {"SUM()", api.ErrArity}, {"SUMM(1)", api.ErrName},
		{"X!A1", api.ErrSheet}, {"MATCH(1,2)", api.ErrArea}, {"SUMPRODUCT(A1:A2,A1:B1)", api.ErrShape},
	} {
		refused(t, row(t, x.formula), api.Cell{}, x.why, "S", "T")
	}
}

// DOC.md's examples of the whole: costs 4, 12; and the ways of 7 and 8, which lie within the bounds.
func TestExamplesOfTheWhole(t *testing.T) {
	bounded(t, flat(t, "A1+3"), 4, 4)
	bounded(t, flat(t, "SUM(A1:A9)"), 4, 12)
	bounded(t, flat(t, "T!A1"), 2, 2)
	bounded(t, flat(t, "IF(A1>0, SUM(B1:B9), 0)"), 5, 17)
	bounded(t, flat(t, "MATCH(3, A1:A9)"), 6, 14)
}
