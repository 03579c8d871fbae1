package view

import (
	"testing"

	"whittle/api"
)

// twoEdits is the view of the table's head.
func twoEdits(t *testing.T) *View {
	t.Helper()
	x, why := New("S")
	if x == nil || why != api.OK {
		t.Fatal(why)
	}
	edited(t, x, "A1", "2")
	edited(t, x, "B1", "=A1")
	return x
}

func TestExamples(t *testing.T) { // Row by row: each but the last one goes on where the one ahead has come to.
	x := twoEdits(t)
	reads(t, x, "A1", fresh(n(2), 2))
	reads(t, x, "B1", never())
	reads(t, x, "C1", vacant(2))
	if got, why := x.Read(api.Cell{Sheet: 1}); got != (api.Seen{}) || why != api.ErrCell {
		t.Error(got, why)
	}

	ticked(t, x, 0, 9, 2)
	reads(t, x, "B1", fresh(n(2), 2))
	edited(t, x, "C1", "7")
	reads(t, x, "B1", fresh(n(2), 3))

	edited(t, x, "A1", "3")
	reads(t, x, "B1", old(n(2), 3))
	edited(t, x, "B1", "=A1+1")
	reads(t, x, "B1", old(n(2), 3))

	edited(t, x, "A1", "")
	edited(t, x, "B1", "")
	edited(t, x, "B1", "=A1")
	reads(t, x, "B1", never())

	x = twoEdits(t)
	seen(t, x, 0, "A1:B9")
	shows(t, x, 0, "A1 B1")
	l, _ := x.Window(0)
	if l[0].Seen != fresh(n(2), 2) || l[1].Seen != never() {
		t.Error(l)
	}
}

func TestExamplesOfTheWhole(t *testing.T) { // Those of DOC.md's ten of which this layer tells.
	x := opened(t, "A1", "2", "B1", "=A1+3") // 1
	reads(t, x, "A1", fresh(n(2), 1))
	reads(t, x, "B1", never())
	ticked(t, x, 0, 1, 1)
	reads(t, x, "B1", never())
	parkedIs(t, x, 0, "B1", 1)
	ticked(t, x, 0, 99, 3)
	reads(t, x, "B1", fresh(n(5), 1))

	edited(t, x, "A1", "4") // 2
	reads(t, x, "A1", fresh(n(4), 2))
	reads(t, x, "B1", old(n(5), 1))

	edited(t, x, "A1", "=B1") // 4
	reads(t, x, "A1", fresh(circle(), 3))
	reads(t, x, "B1", fresh(circle(), 3))
	idleIs(t, x, true)

	if r := x.Edit(puts("A1", "1", "A1", "2")...); r != (api.Refusal{Code: api.ErrTwice, Change: 1}) { // 10
		t.Error(r)
	}
	reads(t, x, "A1", fresh(circle(), 3))
}
