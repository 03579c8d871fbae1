package plain

import (
	"testing"

	"whittle/api"
)

// example is the sheet of the chapter's examples.
func example(t *testing.T) *Values {
	t.Helper()
	return values(t, "A1", "2", "A2", "x", "B1", "=A1*3", "B2", "=SUM(A1:A9)", "C1", "=C2", "C2", "=C1", "C3", "=C1+1")
}

func TestExampleCells(t *testing.T) {
	p := example(t)
	cellIs(t, p, "B1", "6", 4)
	cellIs(t, p, "B2", "2", 12)
	cellIs(t, p, "C1", "#CIRCLE!", 0)
	cellIs(t, p, "C3", "#CIRCLE!", 0)
	cellIs(t, p, "Z1", "_", 0)
	cellIs(t, p, "A1", "2", 0)
	if p.Total() != 16 {
		t.Error("Total:", p.Total())
	}
}

func TestExampleEval(t *testing.T) {
	p := example(t)
	rowsOf(t, p, `
		COUNTA(A1:IV65536) | 7 | 16777219
		MATCH(6,A1:B9) | 2 | 7
		SUM(C1:C9,A1) | #CIRCLE! | 6
	`)
	v, steps, why := p.Eval(row(t, "COUNTA(A1:IV65536)"), at("Z9"), "S")
	if v != n(7) || steps != 16777219 || why != api.OK {
		t.Error(v, steps, why)
	}
}

// TestDocExamples holds what DOC.md's ten examples say of values and costs.
func TestDocExamples(t *testing.T) {
	p := values(t, "A1", "2", "B1", "=A1+3", "C1", "=SUM(A1:A9)", "D1", "=T!A1", "T!A1", "5")
	cellIs(t, p, "B1", "5", 4)
	cellIs(t, p, "C1", "2", 12)
	cellIs(t, p, "D1", "5", 2)
	p = values(t, "A1", "=B1", "B1", "=A1+3")
	cellIs(t, p, "A1", "#CIRCLE!", 0)
	cellIs(t, p, "B1", "#CIRCLE!", 0)
	p = values(t, "A1", "0", "C1", "=IF(A1>0, SUM(B1:B9), 0)")
	cellIs(t, p, "C1", "0", 6)
	p = values(t, "A2", "3", "C1", "=MATCH(3, A1:A9)")
	cellIs(t, p, "C1", "2", 7)
}
