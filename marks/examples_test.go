package marks

import (
	"testing"

	"whittle/api"
)

// example is the sheet of the chapter's examples, alone.
func example(t *testing.T) *Marks {
	t.Helper()
	m, why := New("S")
	if m == nil || why != api.OK {
		t.Fatal(why)
	}
	edited(t, m, "A1", "1", "B1", "=A1", "C1", "=B1", "D1", "=D1")
	return m
}

func TestExamples(t *testing.T) { // Row by row: each goes on where the one ahead has come to.
	m := example(t)
	are(t, m, "B1 C1", "B1")
	lastIs(t, m, "B1 C1", "")
	notReady(t, m, at("C1"))
	done(t, m, "B1")
	are(t, m, "C1", "C1")
	notReady(t, m, at("B1"))
	lastIs(t, m, "B1 C1", "")
	edited(t, m, "A1", "2")
	lastIs(t, m, "B1", "")
	are(t, m, "B1 C1", "B1")
	edited(t, m, "B1", "=C1")
	lastIs(t, m, "", "B1 C1")
	are(t, m, "", "")
	edited(t, m, "C1", "3")
	lastIs(t, m, "B1", "")
	are(t, m, "B1", "B1")
}

// TestExamplesOfTheWhole are those of DOC.md's ten that are this layer's.
func TestExamplesOfTheWhole(t *testing.T) {
	m := opened(t, "A1", "2", "B1", "=A1+3") // 1
	are(t, m, "B1", "B1")
	done(t, m, "B1")
	edited(t, m, "A1", "4") // 2
	are(t, m, "B1", "B1")
	done(t, m, "B1")
	edited(t, m, "C1", "=SUM(A1:A9)") // 3
	lastIs(t, m, "C1", "")
	done(t, m, "C1")
	edited(t, m, "D1", "7")
	lastIs(t, m, "", "")
	edited(t, m, "A9", "1")
	lastIs(t, m, "C1", "")
	edited(t, m, "A1", "=B1") // 4
	lastIs(t, m, "", "C1")
	are(t, m, "", "")
	m = settled(t, "A1", "0", "C1", "=IF(A1>0, SUM(B1:B9), 0)") // 7
	edited(t, m, "B5", "1")
	are(t, m, "C1", "C1")
}
