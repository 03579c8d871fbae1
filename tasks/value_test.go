package tasks

import (
	"testing"

	"whittle/api"
)

func TestValueOfConstants(t *testing.T) { // Promise 16.2: of fresh constants, each what its text is read as; at once, and behind edits.
	x := opened(t, "A1", "2", "B1", "1.50", "C1", "'12", "A2", "TRUE", "B2", "#N/A", "C2", "two words", "T!A1", "'", "U!B2", "-1/3")
	for name, want := range map[string]api.Value{
		"A1": n(2), "B1": {Kind: api.Number, Num: api.Num{N: 3, D: 2}}, "C1": txt("12"), "A2": truth(true), "B2": bad(api.FaultNA), "C2": txt("two words"), "T!A1": txt(""), "U!B2": {Kind: api.Number, Num: api.Num{N: -1, D: 3}},
	} {
		valueIs(t, x, name, want)
	}
	edited(t, x, "A1", "3", "T!A1", "x")
	valueIs(t, x, "A1", n(3))
	valueIs(t, x, "T!A1", txt("x"))
	valueIs(t, x, "C1", txt("12"))
	edited(t, x, "A1", "'3")
	valueIs(t, x, "A1", txt("3"))
}

func TestValueOfFormulas(t *testing.T) { // Promise 16.2: of fresh formulas what they come to, of all kinds of values.
	x := settled(t, "A1", "2", "B1", "=A1*3", "C1", `="a"&B1`, "A2", "=A1>1", "B2", "=1/0", "C2", "=Z9", "A3", "=SUM(A1:B1,C1:C9)", "T!A1", "=S!B2", "U!A1", `=IFERROR(T!A1,"none")`)
	for name, want := range map[string]api.Value{
		"B1": n(6), "C1": txt("a6"), "A2": truth(true), "B2": bad(api.FaultDiv), "C2": blank(), "A3": n(8), "T!A1": bad(api.FaultDiv), "U!A1": txt("none"),
	} {
		valueIs(t, x, name, want)
	}
}

func TestValueOfCircles(t *testing.T) { // Promise 16.2: of fresh cyclic formulas #CIRCLE!, at once; of those that reach a circle, too.
	x := opened(t, "A1", "=B1", "B1", "=A1", "C1", "=C1", "A2", "=SUM(A1:C1)", "T!A1", "=IFERROR(S!A2,5)", "B2", "7", "C2", "=B2")
	for _, c := range list("A1 B1 C1 A2 T!A1") {
		if x.Value(c) != circle() {
			t.Errorf("%s: %v", names(c), x.Value(c))
		}
	}
	valueIs(t, x, "B2", n(7))
	valueIs(t, x, "C2", blank())
	staleAre(t, x, "C2", "C2")
}

func TestValueOfNeverFresh(t *testing.T) { // Promise 16.2: of stale cells that were empty when they were fresh last Blank, whatever edits and steps come, till they are fresh.
	x := opened(t, "A1", "1", "B1", "=A1+1", "C1", "=B1")
	for i, text := range []string{"2", "3", "=7", "4", ""} {
		valueIs(t, x, "B1", blank())
		valueIs(t, x, "C1", blank())
		ticked(t, x, 0, i%3, i%3)
		edited(t, x, "A1", text)
	}
	edited(t, x, "B1", "=A1+2")
	valueIs(t, x, "B1", blank())
	ticked(t, x, 0, 3, 3)
	valueIs(t, x, "B1", blank())
	ticked(t, x, 0, 1, 1)
	valueIs(t, x, "B1", n(2))
	valueIs(t, x, "C1", blank())
}

func TestValueOfStale(t *testing.T) { // Promise 16.2: of stale cells the value that they had when they were fresh last, behind several edits one behind the other.
	x := settled(t, "A1", "1", "B1", "=A1+1", "C1", "=B1*2", "A2", "x", "T!A1", "=S!C1")
	for i := range 4 {
		edited(t, x, "A1", []string{"5", "", "=9", "y"}[i])
		valueIs(t, x, "B1", n(2))
		valueIs(t, x, "C1", n(4))
		valueIs(t, x, "T!A1", n(4))
	}
	edited(t, x, "B1", "=A2", "A2", "=A1") // other formulas; A2 was a constant
	valueIs(t, x, "B1", n(2))
	valueIs(t, x, "A2", txt("x"))
	edited(t, x, "A2", "=A1&1")
	valueIs(t, x, "A2", txt("x"))
	ticked(t, x, 0, 4, 4) // A2
	valueIs(t, x, "A2", txt("y1"))
	valueIs(t, x, "B1", n(2))
	edited(t, x, "A1", "z")
	valueIs(t, x, "A2", txt("y1"))
	ticked(t, x, 0, 99, 4+2+4)
	valueIs(t, x, "A2", txt("z1"))
	valueIs(t, x, "B1", txt("z1"))
	valueIs(t, x, "C1", bad(api.FaultValue))
	valueIs(t, x, "T!A1", n(4))
	settle(t, x)
	valueIs(t, x, "T!A1", bad(api.FaultValue))
}

func TestValueOfLaidAnew(t *testing.T) { // Promise 16.2: a fresh formula that is laid anew as it was is stale, and tells what it told; so does what uses it.
	x := settled(t, "A1", "=3", "B1", "=A1")
	edited(t, x, "A1", "=3")
	staleAre(t, x, "A1 B1", "A1")
	valueIs(t, x, "A1", n(3))
	valueIs(t, x, "B1", n(3))
}

func TestValueOfEmptied(t *testing.T) { // Promise 16.2: of cells that are emptied and filled anew: nothing of what was ahead of that.
	x := settled(t, "A1", "1", "B1", "=A1", "C1", "=B1")
	edited(t, x, "B1", "")
	valueIs(t, x, "B1", blank())
	valueIs(t, x, "C1", n(1)) // it was fresh with contents
	edited(t, x, "B1", "=A1+1")
	valueIs(t, x, "B1", blank())
	edited(t, x, "B1", "")
	edited(t, x, "B1", "7")
	valueIs(t, x, "B1", n(7))
	edited(t, x, "B1", "=A1")
	valueIs(t, x, "B1", n(7))
	edited(t, x, "B1", "") // emptied while it is stale
	valueIs(t, x, "B1", blank())
	edited(t, x, "B1", "=A1")
	valueIs(t, x, "B1", blank())
	edited(t, x, "B1", "8") // a constant while it is stale
	valueIs(t, x, "B1", n(8))
	edited(t, x, "B1", "=Z1") // fresh as a formula that comes to Blank
	ticked(t, x, 0, 2, 2)
	valueIs(t, x, "B1", blank())
	edited(t, x, "A1", "", "C1", "")
	valueIs(t, x, "A1", blank())
	valueIs(t, x, "C1", blank())
}

func TestValueOfTurningCyclic(t *testing.T) { // Promise 16.2: of cells that become cyclic while fresh and while stale, and cease to be.
	x := settled(t, "A1", "1", "B1", "=A1", "C1", "=B1", "A2", "=C1")
	edited(t, x, "A1", "=B1") // A1 was a constant, the others fresh formulas
	for _, c := range list("A1 B1 C1 A2") {
		if x.Value(c) != circle() || x.Stale(c) {
			t.Errorf("%s: %v", names(c), x.Value(c))
		}
	}
	edited(t, x, "A1", "2")
	valueIs(t, x, "A1", n(2))
	staleAre(t, x, "B1 C1 A2", "B1")
	for _, c := range list("B1 C1 A2") {
		if x.Value(c) != circle() {
			t.Errorf("%s: %v", names(c), x.Value(c))
		}
	}
	ticked(t, x, 0, 2, 2) // B1 is fresh, the others are stale
	edited(t, x, "B1", "=C1")
	staleAre(t, x, "", "")
	for _, c := range list("B1 C1 A2") {
		if x.Value(c) != circle() {
			t.Errorf("%s: %v", names(c), x.Value(c))
		}
	}
	edited(t, x, "C1", "=A1")
	staleAre(t, x, "B1 C1 A2", "C1")
	valueIs(t, x, "C1", circle())
	settle(t, x)
	valueIs(t, x, "A2", n(2))
	edited(t, x, "A1", "3")
	edited(t, x, "C1", "=A2") // while they are stale with a value
	valueIs(t, x, "C1", circle())
	edited(t, x, "C1", "")
	valueIs(t, x, "C1", blank())
	valueIs(t, x, "A2", circle())
	valueIs(t, x, "B1", circle())
	x = opened(t, "A1", "=B1") // never fresh with contents, then cyclic, then not
	edited(t, x, "B1", "=A1")
	edited(t, x, "B1", "1")
	valueIs(t, x, "A1", circle())
}

func TestValueOfNoCell(t *testing.T) { // Promise 16.2: Blank of empty cells and of what is no cell of the book.
	x := settled(t, "A1", "1", "B1", "=A1", "IV65536", "2", "U!A1", "3")
	for _, c := range append(strange(), list("A2 C1 T!A1 T!B1 U!B1")...) {
		if x.Value(c) != blank() {
			t.Errorf("%v: %v", c, x.Value(c))
		}
	}
}
