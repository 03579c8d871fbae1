package watch

import (
	"testing"

	"whittle/api"
)

func TestEditTouchesItsCells(t *testing.T) { // Promise 18.2: the cells that an edit names, whatever they held and hold: contents that stay, empty ones that stay empty, constants, formulas, cyclic ones.
	x := settled(t, "A1", "2", "B1", "=A1", "C1", "=C1", "T!A1", "x")
	touches(t, x, "A2", "A2", "")
	touches(t, x, "T!A1", "T!A1", "x")
	touches(t, x, "B1", "B1", "=A1") // it is stale by that
	touches(t, x, "B1", "B1", "=A1") // it was
	touches(t, x, "C1", "C1", "=C1")
	touches(t, x, "U!IV65536", "U!IV65536", "TRUE")
	touches(t, x, "T!A1", "T!A1", "")
	touches(t, x, "A2 B2 T!IV1", "T!IV1", "=5", "B2", "", "A2", "7")
}

func TestEditTouchesInOrder(t *testing.T) { // Promise 18.2: all at one moment, in the order of cells, however they were named.
	x := opened(t)
	touches(t, x, "A1 IV1 A2 B2 IV65536 T!A1 U!A1", "U!A1", "1", "IV65536", "2", "T!A1", "=U!A1", "B2", "=A1", "A2", "", "IV1", "=1", "A1", "5")
}

func TestEditTouchesWhatItMakesStale(t *testing.T) { // Promise 18.2: those that were fresh and reach a cell of the edit, near or far, of other sheets too; not those that were stale ahead, and not those that reach none.
	x := settled(t, "A1", "2", "B1", "=A1", "C1", "=SUM(A1:B1)", "A2", "=C1*2", "B2", "=IV1", "T!A1", "=S!A2", "T!B1", "7")
	touches(t, x, "A1 B1 C1 A2 T!A1", "A1", "3")
	touches(t, x, "A1", "A1", "4")
	ticked(t, x, 0, 2, 2) // B1
	touches(t, x, "A1 B1", "A1", "5")
	touches(t, x, "B1 T!B1", "B1", "=A1+1", "T!B1", "8")
	ticked(t, x, 0, 5, 5) // B1, and 1 step of C1
	parkedIs(t, x, 0, "C1", 1)
	touches(t, x, "B1", "B1", "=6") // C1 is stale, its frame is aborted, and that touches nothing
	abortedIs(t, x, "C1")
	settle(t, x)
	touches(t, x, "IV1 B2", "IV1", "")
	touches(t, x, "Z9", "Z9", "1")
}

func TestEditTouchesWhatItMakesFresh(t *testing.T) { // Promise 18.2: those that were stale and are not behind it: cells of the edit, and those that became cyclic.
	x := opened(t, "A1", "2", "B1", "=A1", "C1", "=B1", "A2", "=C1", "B2", "=A1")
	touches(t, x, "B1", "B1", "7") // a constant: it is fresh; C1 and A2 stay stale
	touches(t, x, "C1", "C1", "")
	touches(t, x, "C1", "C1", "=B1")
	touches(t, x, "B1 C1 A2", "B1", "=C1") // C1 and A2 were stale, and are cyclic
	reads(t, x, "A2", fresh(circle(), 5))
	reads(t, x, "B2", never())
}

func TestEditTouchesWhatBecomesCyclic(t *testing.T) { // Promise 18.2: those that were fresh and are fresh, and cyclic now; on the circle and those that reach it; those that were cyclic ahead, and are, are not touched.
	x := settled(t, "A1", "2", "B1", "=A1", "C1", "=B1", "A2", "=C1", "B2", "=IV1", "T!A1", "=S!B1+S!IV1")
	touches(t, x, "A1 B1 C1 A2 T!A1", "A1", "=C1")
	if x.Count() != 0 || len(x.Last().Stale) != 0 || len(x.Last().Fresh) != 0 {
		t.Error("no flag should have turned", x.Last())
	}
	touches(t, x, "A1", "A1", "=C1")       // all are cyclic as they were
	touches(t, x, "A1", "A1", "=A1")       // by another circle
	touches(t, x, "B1", "B1", "=A1+1")     // B1 reaches a circle still
	touches(t, x, "IV1 B2", "IV1", "=IV1") // T!A1 was cyclic; B2 becomes so
	touches(t, x, "IV1", "IV1", "=T!A1+IV1")
	touches(t, x, "A1 B1 C1 A2", "A1", "3") // T!A1 is cyclic by IV1
	reads(t, x, "T!A1", fresh(circle(), 8))
	reads(t, x, "B1", old(circle(), 7))
}

func TestEditTouchesWhatCeasesToBeCyclic(t *testing.T) { // Promise 18.2: it is made stale.
	x := opened(t, "A1", "=B1", "B1", "=A1", "C1", "=A1", "A2", "=A2+C1")
	touches(t, x, "A1 B1 C1", "A1", "2") // A2 lies on a circle of its own
	settle(t, x)
	touches(t, x, "A1 B1 C1", "A1", "=B1")
	touches(t, x, "A1 B1 C1", "A1", "")
	touches(t, x, "A2", "A2", "=C1")
}

func TestEditOfSomeThatAreFreshAndSomeThatAreStale(t *testing.T) { // Promise 18.2: of the cells on one circle some were stale and some fresh ahead: all are touched, at one moment.
	x := settled(t, "A1", "2", "B1", "=A1", "C1", "=B1", "A2", "=B2", "B2", "4")
	edited(t, x, "A1", "3")
	ticked(t, x, 0, 2, 2) // B1 is fresh, C1 stale
	touches(t, x, "A1 B1 C1", "A1", "=C1")
	touches(t, x, "A1 B1 C1 A2 B2", "B1", "5", "B2", "=A2") // one circle goes, another one comes
}

func TestEditMakesOneMoment(t *testing.T) { // Promise 18.2: one moment an accepted edit, whether it names one cell or as many as it may.
	x := opened(t)
	var l []api.Change
	for i := range api.MaxBatch {
		l = append(l, api.Change{Cell: api.Cell{Sheet: i % 3, Row: i, Col: i}, Text: "=1"})
	}
	for m := range 5 {
		momentIs(t, x, m)
		taken(t, x, l...)
	}
	momentIs(t, x, 5)
	for m := range 5 {
		if got, why := x.Since(m); len(got) != api.MaxBatch || why != api.OK {
			t.Errorf("Since(%d): %d cells, %d", m, len(got), why)
		}
	}
}

func TestEditAnswers(t *testing.T) { // Promise 18.1: Edit does what the view's does, and answers it.
	x := opened(t)
	if r := x.Edit(puts("A1", "1", "B1", "=A1")...); r != (api.Refusal{}) {
		t.Error(r)
	}
	if r := x.Edit(puts("A1", "1", "B1", "=A1+")...); r != (api.Refusal{Code: api.ErrForm, Change: 1, At: 4}) {
		t.Error(r)
	}
	if x.Version() != 1 || x.Text(at("B1")) != "=A1" || !x.Stale(at("B1")) {
		t.Error(x.Version(), x.Text(at("B1")))
	}
}
