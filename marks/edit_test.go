package marks

import (
	"testing"

	"whittle/api"
)

func TestEditOfKinds(t *testing.T) { // Promise 15.1: what the edit's own cells hold then.
	m := settled(t, "A1", "1", "B1", "=A1", "C1", "=B1")
	edited(t, m, "B1", "7") // a constant in the place of a formula
	lastIs(t, m, "C1", "")
	are(t, m, "C1", "C1")
	settle(t, m)
	edited(t, m, "B1", "=A1") // a formula in the place of a constant
	lastIs(t, m, "B1 C1", "")
	are(t, m, "B1 C1", "B1")
	settle(t, m)
	edited(t, m, "B1", "=A1") // a formula laid anew as it was
	lastIs(t, m, "B1 C1", "")
	are(t, m, "B1 C1", "B1")
	settle(t, m)
	edited(t, m, "B1", "") // a cell emptied
	lastIs(t, m, "C1", "")
	are(t, m, "C1", "C1")
	settle(t, m)
	edited(t, m, "B1", "") // an empty one emptied
	lastIs(t, m, "C1", "")
	settle(t, m)
	edited(t, m, "A1", "1") // a constant that nobody uses now
	lastIs(t, m, "", "")
	are(t, m, "", "")
	edited(t, m, "B1", "=Z9*2", "A1", "=5") // of an empty cell, and without any
	lastIs(t, m, "A1 B1 C1", "")
	are(t, m, "A1 B1 C1", "A1 B1")
}

func TestEditOfStale(t *testing.T) { // Promise 15.1: of cells that are stale themselves.
	for _, x := range []struct{ text, stale, ready, fresh string }{
		{"7", "C1", "C1", "B1"}, {"", "C1", "C1", "B1"}, {"x", "C1", "C1", "B1"}, {"=2", "B1 C1", "B1", ""}, {"=A1", "B1 C1", "B1", ""}, {"=Z9", "B1 C1", "B1", ""}, {"=B1", "", "", "B1 C1"}, {"=C1", "", "", "B1 C1"},
	} {
		m := opened(t, "A1", "1", "B1", "=A1", "C1", "=B1")
		edited(t, m, "B1", x.text)
		lastIs(t, m, "", x.fresh)
		are(t, m, x.stale, x.ready)
	}
}

func TestStaleAheadStays(t *testing.T) { // Promise 15.1: what was stale is so behind edits of whatever else, and no part of Last.
	m := opened(t, "A1", "1", "B1", "=A1", "C1", "=B1", "A2", "2", "B2", "=A2")
	edited(t, m, "Z9", "5")
	lastIs(t, m, "", "")
	are(t, m, "B1 C1 B2", "B1 B2")
	done(t, m, "B1 B2")
	edited(t, m, "A2", "3")
	lastIs(t, m, "B2", "")
	are(t, m, "C1 B2", "C1 B2")
	edited(t, m, "A1", "4")
	lastIs(t, m, "B1", "")
	are(t, m, "B1 C1 B2", "B1 B2")
	edited(t, m, "A1", "5")
	lastIs(t, m, "", "")
	are(t, m, "B1 C1 B2", "B1 B2")
}

func TestOthersStayFresh(t *testing.T) { // Promise 15.1: what reaches none of the edit's cells keeps its flag: what the edit's cells use, and what uses cells beside.
	m := settled(t, "A1", "=1", "B1", "=A1", "C1", "=B1", "A2", "=A1", "B2", "=SUM(A1:A2)", "A3", "=T!B1", "B3", "=C2", "T!B1", "=U!B1", "IV1", "=ROWS(A1:C3)")
	edited(t, m, "B1", "=A1+1")
	lastIs(t, m, "B1 C1", "")
	are(t, m, "B1 C1", "B1")
}

func TestReachByCells(t *testing.T) { // Promise 15.1: through other cells, ever so far, and by several ways.
	m := settled(t, "A1", "1", "B1", "=A1", "C1", "=B1+A1", "A2", "=C1+B1", "B2", "=A2", "C2", "=$B$2", "A3", "=IF(FALSE,C2,1)", "B3", "=IFERROR(1,A3)+CHOOSE(2,A1,0)")
	edited(t, m, "A1", "2")
	lastIs(t, m, "B1 C1 A2 B2 C2 A3 B3", "")
	are(t, m, "B1 C1 A2 B2 C2 A3 B3", "B1")
	settle(t, m)
	edited(t, m, "A2", "=C1")
	lastIs(t, m, "A2 B2 C2 A3 B3", "")
	are(t, m, "A2 B2 C2 A3 B3", "A2")
}

func TestReachByAreas(t *testing.T) { // Promise 15.1: in areas, small and huge ones, at their corners and not beside them.
	for _, text := range []string{"=SUM(B2:C3)", "=SUM(C3:B2)", "=COUNTIF(B2:C3,1)", "=INDEX(B2:C3,1,1)", "=SUMPRODUCT(B2:C3,B2:C3)", "=IF(FALSE,SUM(B2:C3),1)"} {
		m := settled(t, "A1", text, "B1", "=A1")
		for _, c := range list("B2 C2 B3 C3") {
			taken(t, m, api.Change{Cell: c, Text: "5"})
			lastIs(t, m, "A1 B1", "")
			settle(t, m)
		}
		for _, c := range list("C1 D1 A2 D2 A3 D3 A4 B4 C4 T!B2 U!C3") {
			taken(t, m, api.Change{Cell: c, Text: "5"})
			lastIs(t, m, "", "")
		}
	}
	m := settled(t, "A1", "=SUM(T!A1:IV65536)", "B1", "=SUM(A2:IV65536)", "C1", "=ROWS(T!A1:IV65536)")
	edited(t, m, "T!IV65536", "1")
	lastIs(t, m, "A1", "")
	edited(t, m, "IV65536", "1")
	lastIs(t, m, "B1", "")
	are(t, m, "A1 B1", "A1 B1")
}

func TestReachThroughSheets(t *testing.T) { // Promises 15.1, 15.3: from sheet to sheet and back.
	m := settled(t, "A1", "=T!A1", "B1", "=U!A1", "T!A1", "5", "T!B1", "=S!A1", "U!A1", "=SUM(T!A1:B2)", "U!B2", "=S!B1")
	edited(t, m, "T!A1", "6")
	lastIs(t, m, "A1 B1 T!B1 U!A1 U!B2", "")
	are(t, m, "A1 B1 T!B1 U!A1 U!B2", "A1")
	done(t, m, "A1")
	are(t, m, "B1 T!B1 U!A1 U!B2", "T!B1")
	done(t, m, "T!B1 U!A1")
	are(t, m, "B1 U!B2", "B1")
	done(t, m, "B1 U!B2")
	are(t, m, "", "")
}

func TestReachByNewContents(t *testing.T) { // Promise 15.1: who reaches an edit's cell by the new contents alone is stale; who did by the old ones alone is not.
	m := settled(t, "A1", "1", "B1", "=Z9", "C1", "=B1", "A2", "=A1", "B2", "=A2")
	edited(t, m, "A1", "2", "A2", "9", "B1", "=A1") // A2 has reached A1, B1 and C1 do now
	lastIs(t, m, "B1 C1 B2", "")
	are(t, m, "B1 C1 B2", "B1 B2")
	settle(t, m)
	edited(t, m, "A1", "3", "A2", "=7", "B2", "8")
	lastIs(t, m, "B1 C1 A2", "")
	settle(t, m)
	edited(t, m, "A1", "4", "B1", "5", "C1", "6") // nobody reaches A1 any more
	lastIs(t, m, "", "")
	edited(t, m, "A1", "4")
	lastIs(t, m, "", "")
	edited(t, m, "A3", "=SUM(A1:A2)")
	settle(t, m)
	edited(t, m, "A3", "", "A1", "2")
	lastIs(t, m, "", "")
	are(t, m, "", "")
}

func TestEditsUndoOneAnother(t *testing.T) { // Promise 15.1: changes of one edit count as one: by the contents behind them all.
	m := settled(t, "A1", "1", "B1", "=A1", "C1", "=B1", "A2", "2", "B2", "=A2", "C2", "=B2")
	edited(t, m, "B1", "=A2", "B2", "=A1") // crossed over
	lastIs(t, m, "B1 C1 B2 C2", "")
	settle(t, m)
	edited(t, m, "A1", "5")
	lastIs(t, m, "B2 C2", "")
	settle(t, m)
	edited(t, m, "A1", "=C1", "B2", "3") // no circle: B1 uses A2
	lastIs(t, m, "A1 C2", "")
	settle(t, m)
	edited(t, m, "B1", "=A1", "C1", "4") // each alone would close or open one
	lastIs(t, m, "A1 B1", "")
	are(t, m, "A1 B1", "A1")
	edited(t, m, "C1", "=B1", "A1", "6")
	lastIs(t, m, "C1", "A1")
	are(t, m, "B1 C1", "B1")
	edited(t, m, "B1", "=C1", "C1", "=A1")
	lastIs(t, m, "", "")
	are(t, m, "B1 C1", "C1")
}

func TestBecomesCyclic(t *testing.T) { // Promises 15.1, 15.2: while stale and while fresh; what reaches the circle, too.
	m := opened(t, "A1", "1", "B1", "=A1", "C1", "=B1", "A2", "=C1", "B2", "=SUM(A2:A9)", "C2", "=5")
	done(t, m, "B1 C1")
	edited(t, m, "B1", "=C1") // B1 and C1 were fresh, A2 and B2 stale
	lastIs(t, m, "", "A2 B2")
	are(t, m, "C2", "C2")
	edited(t, m, "B1", "=B1") // they were cyclic and are
	lastIs(t, m, "", "")
	are(t, m, "C2", "C2")
	edited(t, m, "C2", "=A2") // a stale one that reaches the circle from now on
	lastIs(t, m, "", "C2")
	are(t, m, "", "")
	m = settled(t, "A1", "=1")
	edited(t, m, "A1", "=SUM(A1:IV65536)") // fresh ahead, fresh behind it
	lastIs(t, m, "", "")
	edited(t, m, "T!A1", "=U!A1", "U!A1", "=T!A1", "U!B2", "=S!A1") // new ones that are cyclic at once
	lastIs(t, m, "", "")
	are(t, m, "", "")
}

func TestCeasesToBeCyclic(t *testing.T) { // Promise 15.1: by an edit of another cell of the circle, or of one beside that it goes through no more.
	m := opened(t, "A1", "=B1", "B1", "=C1", "C1", "=A1", "A2", "=B1", "B2", "=A2", "A3", "=A3+A1", "B3", "=A3")
	are(t, m, "", "")
	edited(t, m, "C1", "5")
	lastIs(t, m, "A1 B1 A2 B2", "")
	are(t, m, "A1 B1 A2 B2", "B1")
	edited(t, m, "A3", "=A1")
	lastIs(t, m, "A3 B3", "")
	are(t, m, "A1 B1 A2 B2 A3 B3", "B1")
	settle(t, m)
	edited(t, m, "C1", "=SUM(A1:B1)", "T!A1", "=S!A1")
	lastIs(t, m, "", "")
	edited(t, m, "C1", "")
	lastIs(t, m, "A1 B1 A2 B2 A3 B3 T!A1", "")
	are(t, m, "A1 B1 A2 B2 A3 B3 T!A1", "B1")
}

func TestTwoCirclesOneOpened(t *testing.T) { // Promise 15.1: who still reaches another circle is not stale.
	m := opened(t, "A1", "=A1", "B1", "=B1", "C1", "=A1+B1", "A2", "=C1", "B2", "=A1")
	edited(t, m, "A1", "1")
	lastIs(t, m, "B2", "")
	edited(t, m, "B1", "1")
	lastIs(t, m, "C1 A2", "")
	are(t, m, "C1 A2 B2", "C1 B2")
}

func TestCyclicThatUsesStale(t *testing.T) { // Promises 15.1, 15.3: a cyclic formula may use stale cells, done or not meanwhile; once it is not cyclic, it waits for those that still are.
	m := opened(t, "A1", "=1", "A2", "=2", "A3", "=3", "B1", "=A1+A2+A3+B2", "B2", "=B1")
	are(t, m, "A1 A2 A3", "A1 A2 A3")
	done(t, m, "A2")
	edited(t, m, "B2", "5")
	lastIs(t, m, "B1", "")
	are(t, m, "A1 B1 A3", "A1 A3")
	done(t, m, "A3")
	are(t, m, "A1 B1", "A1")
	edited(t, m, "B2", "=B1")
	lastIs(t, m, "", "B1")
	are(t, m, "A1", "A1")
	edited(t, m, "A3", "=4", "A1", "7")
	lastIs(t, m, "A3", "A1")
	edited(t, m, "B2", "")
	are(t, m, "B1 A3", "A3")
	done(t, m, "A3 B1")
	are(t, m, "", "")
}

func TestUsesThatOverlap(t *testing.T) { // Promise 15.3: a cell that is used several times, by itself and in areas, is one that is waited for.
	m := opened(t, "A1", "=1", "A2", "=2", "C1", "=A1+A1+SUM(A1:A2)+SUM(A1:B9,A2:A3)+COUNTIF(A1:A65536,A2)+SUM(A1:A2)", "C2", "=C1+SUM(C1:C1)")
	are(t, m, "A1 C1 A2 C2", "A1 A2")
	done(t, m, "A1")
	are(t, m, "C1 A2 C2", "A2")
	done(t, m, "A2")
	are(t, m, "C1 C2", "C1")
	done(t, m, "C1")
	are(t, m, "C2", "C2")
	edited(t, m, "C1", "=A1+SUM(A1:B9)+A2+SUM(A1:A3)", "A2", "=A1")
	are(t, m, "C1 A2 C2", "A2")
	edited(t, m, "A1", "=5")
	are(t, m, "A1 C1 A2 C2", "A1")
	done(t, m, "A1 A2")
	are(t, m, "C1 C2", "C1")
}

func TestWaitsByNewUses(t *testing.T) { // Promises 15.1, 15.3: what a formula waits for goes by what it uses now.
	m := opened(t, "A1", "=1", "B1", "=2", "C1", "=A1", "A2", "=C1")
	done(t, m, "A1")
	are(t, m, "B1 C1 A2", "B1 C1")
	edited(t, m, "C1", "=B1")
	are(t, m, "B1 C1 A2", "B1")
	edited(t, m, "C1", "=A1")
	are(t, m, "B1 C1 A2", "B1 C1")
	edited(t, m, "C1", "=SUM(A1:B1)")
	are(t, m, "B1 C1 A2", "B1")
	edited(t, m, "B1", "3") // what it has waited for is a constant, then empty, then a formula again
	are(t, m, "C1 A2", "C1")
	edited(t, m, "B1", "=4")
	are(t, m, "B1 C1 A2", "B1")
	edited(t, m, "B1", "")
	are(t, m, "C1 A2", "C1")
	edited(t, m, "A2", "=5")
	are(t, m, "C1 A2", "C1 A2")
}

func TestEditOfManyCells(t *testing.T) { // Promise 15.1: MaxBatch changes, each using the one ahead.
	m := opened(t)
	var l []api.Change
	for i := range api.MaxBatch {
		l = append(l, api.Change{Cell: api.Cell{Row: i + 1}, Text: "=" + row(i)})
	}
	taken(t, m, l...)
	if m.Count() != api.MaxBatch || len(m.Last().Stale) != api.MaxBatch || names(m.ReadyOf(0)) != "A2" {
		t.Error(m.Count(), names(m.ReadyOf(0)))
	}
	settle(t, m)
	edited(t, m, "A200", "1")
	if m.Count() != api.MaxBatch+1-200 || names(m.ReadyOf(0)) != "A201" {
		t.Error(m.Count(), names(m.ReadyOf(0)))
	}
}
