package tasks

import (
	"slices"
	"testing"

	"whittle/api"
)

func TestExamples(t *testing.T) { // Row by row: each goes on where the one ahead has come to.
	x, why := New("S", "T")
	if x == nil || why != api.OK {
		t.Fatal(why)
	}
	edited(t, x, "A1", "2", "B1", "=A1+A1", "C1", "=B1*2", "T!A1", "=S!C1")
	nextIs(t, x, 0, "B1")
	nextIs(t, x, 1, "")
	ticked(t, x, 1, 9, 0)

	ticked(t, x, 0, 3, 3)
	parkedIs(t, x, 0, "B1", 3)
	if f := x.Flight(0).Frame; f.At != 3 || !slices.Equal(f.Stack, []api.Value{n(4)}) || len(f.Accs) != 0 || f.Scans != 0 || f.Done {
		t.Error(f)
	}

	ticked(t, x, 0, 1, 1)
	parkedIs(t, x, 0, "", 0)
	nextIs(t, x, 0, "C1")
	nextIs(t, x, 1, "")

	c1 := at("C1")
	want := []api.Event{{Cell: c1, Reads: true, Read: at("B1"), V: n(4)}, {Cell: c1}, {Cell: c1}, {Cell: c1, Wrote: true, V: n(8)}}
	if l := traced(t, x, 0, 9); !slices.Equal(l, want) {
		t.Error(l)
	}

	nextIs(t, x, 1, "T!A1")
	ticked(t, x, 1, 9, 2)
	valueIs(t, x, "T!A1", n(8))

	tickRefused(t, x, 2, 1, api.ErrTask)
	tickRefused(t, x, -1, -1, api.ErrTask)
	tickRefused(t, x, 0, -1, api.ErrBudget)
	traceRefused(t, x, 0, 4097, api.ErrBudget)

	edited(t, x, "D1", "=SUM(A1:A9)")
	ticked(t, x, 0, 4, 4)
	parkedIs(t, x, 0, "D1", 4)
	edited(t, x, "A9", "1")
	abortedIs(t, x, "D1")
	parkedIs(t, x, 0, "", 0)

	edited(t, x, "E1", "=A1", "F1", "=A1")
	seen(t, x, 0, "F1:F1")
	nextIs(t, x, 0, "F1")
}

func TestExamplesOfTheWhole(t *testing.T) { // Those of DOC.md's ten that are this layer's.
	x := opened(t, "A1", "2", "B1", "=A1+3") // 1
	valueIs(t, x, "A1", n(2))
	valueIs(t, x, "B1", blank())
	staleAre(t, x, "B1", "B1")
	ticked(t, x, 0, 1, 1)
	parkedIs(t, x, 0, "B1", 1)
	ticked(t, x, 0, 99, 3)
	valueIs(t, x, "B1", n(5))
	staleAre(t, x, "", "")

	edited(t, x, "A1", "4") // 2
	valueIs(t, x, "A1", n(4))
	valueIs(t, x, "B1", n(5))
	staleAre(t, x, "B1", "B1")
	settle(t, x)

	edited(t, x, "C1", "=SUM(A1:A9)") // 3
	ticked(t, x, 0, 5, 5)
	edited(t, x, "D1", "7")
	abortedIs(t, x, "")
	parkedIs(t, x, 0, "C1", 5)
	edited(t, x, "A9", "1")
	abortedIs(t, x, "C1")
	ticked(t, x, 0, 99, 12)
	valueIs(t, x, "C1", n(5))

	edited(t, x, "A1", "=B1") // 4
	valueIs(t, x, "A1", circle())
	valueIs(t, x, "B1", circle())
	staleAre(t, x, "", "")

	x = opened(t, "A1", "=T!A1", "T!A1", "5") // 5
	ticked(t, x, 1, 9, 0)
	ticked(t, x, 0, 9, 2)

	tickRefused(t, x, 3, 1, api.ErrTask) // 6
	tickRefused(t, x, 0, -1, api.ErrBudget)
	ticked(t, x, 0, 0, 0)

	x = opened(t, "A1", "0", "C1", "=IF(A1>0, SUM(B1:B9), 0)") // 7
	ticked(t, x, 0, 99, 6)
	edited(t, x, "B5", "1")
	staleAre(t, x, "C1", "C1")

	x = opened(t, "A2", "3", "C1", "=MATCH(3, A1:A9)") // 8
	ticked(t, x, 0, 99, 7)
	valueIs(t, x, "C1", n(2))

	x = opened(t, "A1", "=1", "C3", "=2") // 9
	nextIs(t, x, 0, "A1")
	seen(t, x, 0, "C1:C9")
	nextIs(t, x, 0, "C3")

	if r := x.Edit(puts("A1", "1", "A1", "2")...); r != (api.Refusal{Code: api.ErrTwice, Change: 1}) { // 10
		t.Error(r)
	}
	staleAre(t, x, "A1 C3", "A1 C3")
}
