package machine

import (
	"testing"

	"whittle/api"
)

// The chapter's table of examples, row by row.

func TestExampleSum(t *testing.T) { // `A1+2`, A1 3.
	f := begin(t, flat(t, "A1+2")...)
	wants(t, f, "A1")
	step(t, f, n(3))
	stacked(t, f, n(3))
	steps(t, f, 2)
	stacked(t, f, n(5))
	if f.Done() {
		t.Fatal("Done ahead of InsStore")
	}
	steps(t, f, 1)
	if r, ok := f.Result(); !f.Done() || r != n(5) || !ok || f.Steps() != 4 {
		t.Fatalf("Result %v %t, Steps %d, Done %t", r, ok, f.Steps(), f.Done())
	}
}

func TestExampleFold(t *testing.T) { // `SUM(A1:A3)`, 1, #N/A.
	f := begin(t, flat(t, "SUM(A1:A3)")...)
	steps(t, f, 1)
	wants(t, f, "A1")
	scanning(t, f, "A1", 0, 3)
	step(t, f, n(1))
	wants(t, f, "A2")
	scanning(t, f, "A2", 1, 2)
	step(t, f, bad(api.FaultNA))
	unscanned(t, f)
	steps(t, f, 2)
	if r, ok := f.Result(); r != bad(api.FaultNA) || !ok || f.Steps() != 5 {
		t.Fatalf("Result %v %t, Steps %d", r, ok, f.Steps())
	}
}

func TestExamplesOther(t *testing.T) {
	comes(t, flat(t, "IF(A1,1,2)"), cells{"A1": txt("x")}, bad(api.FaultValue), 3, "A1")
	comes(t, flat(t, "SUMIF(A1:A2,1,B1:B2)"), cells{"A1": n(1), "B1": n(5), "A2": n(2), "B2": n(70)}, n(5), 8, "A1", "B1", "A2")
	f := begin(t, flat(t, "INDEX(A1:B2,2,1)")...)
	steps(t, f, 2)
	wants(t, f, "A2")
	f = begin(t, flat(t, "INDEX(A1:B2,5)")...)
	steps(t, f, 2)
	stacked(t, f, bad(api.FaultRef))
	if f, why := New(nil); f != nil || why != api.ErrCode {
		t.Fatal("New of no instruction:", why)
	}
}

// DOC.md's examples of the whole: 1, 3, 5, 7 and 8.
func TestExamplesOfTheWhole(t *testing.T) {
	comes(t, flat(t, "A1+3"), cells{"A1": n(2)}, n(5), 4, "A1")
	comes(t, flat(t, "SUM(A1:A9)"), cells{"A9": n(1)}, n(1), 12, "A1", "A2", "A3", "A4", "A5", "A6", "A7", "A8", "A9")
	comes(t, flat(t, "IF(A1>0, SUM(B1:B9), 0)"), cells{"A1": n(0)}, n(0), 6, "A1")
	comes(t, flat(t, "MATCH(3, A1:A9)"), cells{"A2": n(3)}, n(2), 7, "A1", "A2")
	f := begin(t, flat(t, "T!A1")...)
	if c, ok := f.Wants(); !ok || c != (api.Cell{Sheet: 1}) {
		t.Fatal("T!A1 wants", c, ok)
	}
	step(t, f, n(5), blank)
	if r, ok := f.Result(); r != n(5) || !ok || f.Steps() != 2 {
		t.Fatal("T!A1 comes to", r, ok, f.Steps())
	}
}
