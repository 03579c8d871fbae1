package marks

import (
	"slices"
	"testing"

	"whittle/api"
)

func TestLastOfNothing(t *testing.T) { // Promise 15.2: nothing, if no edit was accepted yet.
	m := opened(t)
	lastIs(t, m, "", "")
	m.Edit(put("A1", "=1+"), put("B1", "=2"))
	m.Edit()
	lastIs(t, m, "", "")
}

func TestLastOfTheLast(t *testing.T) { // Promise 15.2: of the last accepted edit alone; a refused one, and Done, turn nothing of it.
	m := opened(t, "A1", "1", "B1", "=A1", "C1", "=B1")
	lastIs(t, m, "B1 C1", "")
	done(t, m, "B1")
	lastIs(t, m, "B1 C1", "")
	m.Edit(put("C1", "9"), put("C1", "8"))
	lastIs(t, m, "B1 C1", "")
	done(t, m, "C1")
	lastIs(t, m, "B1 C1", "")
	edited(t, m, "Z9", "1") // one that turns nothing
	lastIs(t, m, "", "")
	edited(t, m, "C1", "=A1")
	lastIs(t, m, "C1", "")
	edited(t, m, "C1", "2")
	lastIs(t, m, "", "C1")
	edited(t, m, "C1", "2")
	lastIs(t, m, "", "")
}

func TestLastInOrder(t *testing.T) { // Promise 15.2: both lists in the order of cells, whatever the order of changes; no cell is in both.
	m := opened(t, "U!A1", "=1", "T!B1", "=1", "T!A2", "=1", "IV65536", "=1", "B2", "=1", "A2", "=1", "AA1", "=1", "Z1", "=1", "A10", "=1", "A9", "=1")
	lastIs(t, m, "Z1 AA1 A2 B2 A9 A10 IV65536 T!B1 T!A2 U!A1", "")
	edited(t, m, "U!B2", "=2", "U!A1", "", "T!B1", "x", "T!A1", "=3", "IV65536", "5", "A2", "", "Z1", "", "A1", "=2", "B1", "=A1")
	lastIs(t, m, "A1 B1 T!A1 U!B2", "Z1 A2 IV65536 T!B1 U!A1")
	l := m.Last()
	for _, c := range l.Stale {
		if slices.Contains(l.Fresh, c) {
			t.Errorf("%v in both", c)
		}
	}
}

func TestOfKinds(t *testing.T) { // Promise 15.3: empty cells, constants, cyclic formulas, stale and fresh ones.
	m := opened(t, "A1", "1", "B1", "x", "C1", "#N/A", "A2", "=A2", "B2", "=A2", "C2", "=A1", "A3", "=C2", "B3", "=B1")
	done(t, m, "B3")
	for _, c := range list("Z9 A1 B1 C1 A2 B2 B3 T!A1 T!C2") {
		if m.Stale(c) || m.Ready(c) {
			t.Errorf("%s: Stale %v, Ready %v", names([]api.Cell{c}), m.Stale(c), m.Ready(c))
		}
	}
	are(t, m, "C2 A3", "C2")
	for _, c := range strange() {
		if m.Stale(c) || m.Ready(c) {
			t.Errorf("%v: Stale %v, Ready %v", c, m.Stale(c), m.Ready(c))
		}
	}
}

func TestReadyWithWhatIsUsed(t *testing.T) { // Promise 15.3: ready goes by what is used by itself: fresh, empty, constant, cyclic of its sheet or another.
	m := opened(t, "A1", "1", "B1", "=A1+Z9", "C1", "=5", "A2", "=T!A1", "T!A1", "=U!A1+S!A1", "U!A1", "=2", "B2", "=SUM(A3:Z99)+ROWS(A1:C1)", "C2", "=SUM(A1:B1)")
	are(t, m, "B1 C1 A2 B2 C2 T!A1 U!A1", "B1 C1 B2 U!A1")
	done(t, m, "U!A1")
	are(t, m, "B1 C1 A2 B2 C2 T!A1", "B1 C1 B2 T!A1")
	done(t, m, "C1 B1")
	are(t, m, "A2 B2 C2 T!A1", "B2 C2 T!A1")
}

func TestOfSheets(t *testing.T) { // Promise 15.3: of each sheet its own, in their order; none of a sheet that there is not. Count is of all.
	m := opened(t, "A1", "=1", "B1", "=A1", "A2", "=1", "AA1", "=1", "T!B1", "=S!A2", "T!A2", "=1", "T!A10", "=1", "T!A9", "=1", "U!A1", "5")
	for sheet, want := range []struct{ stale, ready string }{{"A1 B1 AA1 A2", "A1 AA1 A2"}, {"T!B1 T!A2 T!A9 T!A10", "T!A2 T!A9 T!A10"}, {"", ""}} {
		if names(m.StaleOf(sheet)) != want.stale || names(m.ReadyOf(sheet)) != want.ready {
			t.Errorf("%d: %s; %s", sheet, names(m.StaleOf(sheet)), names(m.ReadyOf(sheet)))
		}
	}
	for _, sheet := range oddSheets() {
		if len(m.StaleOf(sheet)) != 0 || len(m.ReadyOf(sheet)) != 0 {
			t.Errorf("%d: %v, %v", sheet, m.StaleOf(sheet), m.ReadyOf(sheet))
		}
	}
	if m.Count() != 8 {
		t.Error(m.Count())
	}
}

func TestSixteenSheets(t *testing.T) { // Promise 15.3: as many sheets as there may be, each using the one ahead.
	m, why := New(many(api.MaxSheets)...)
	if why != api.OK {
		t.Fatal(why)
	}
	taken(t, m, api.Change{Text: "=1"})
	for i, name := range many(api.MaxSheets - 1) {
		taken(t, m, api.Change{Cell: api.Cell{Sheet: i + 1}, Text: "=" + name + "!A1"})
	}
	for sheet := range api.MaxSheets {
		if c := (api.Cell{Sheet: sheet}); m.Count() != api.MaxSheets-sheet || !slices.Equal(m.StaleOf(sheet), []api.Cell{c}) || !slices.Equal(m.ReadyOf(sheet), []api.Cell{c}) || m.Done(c) != api.OK {
			t.Fatalf("%d: %v, %v", sheet, m.StaleOf(sheet), m.ReadyOf(sheet))
		}
	}
	taken(t, m, api.Change{Cell: api.Cell{Sheet: 7}, Text: "1"})
	if m.Count() != 8 || len(m.ReadyOf(8)) != 1 || len(m.ReadyOf(9)) != 0 || len(m.StaleOf(15)) != 1 || len(m.StaleOf(7)) != 0 {
		t.Error(m.Count())
	}
}

func TestDone(t *testing.T) { // Promise 15.4: of a ready cell, and of all that is not.
	m := opened(t, "A1", "1", "B1", "=A1", "C1", "=B1", "A2", "=A2", "B2", "=A2", "T!A1", "=S!C1", "T!B1", "=2")
	notReady(t, m, list("A1 C1 A2 B2 Z9 T!A1 U!A1")...) // a constant, stale ones that wait, cyclic ones, empty ones
	notReady(t, m, strange()...)
	done(t, m, "B1")
	are(t, m, "C1 T!A1 T!B1", "C1 T!B1")
	notReady(t, m, list("B1 T!A1 A1")...) // a fresh one, twice
	done(t, m, "T!B1 C1")
	notReady(t, m, list("B1 C1 T!B1")...)
	are(t, m, "T!A1", "T!A1")
	done(t, m, "T!A1")
	notReady(t, m, append(strange(), universe()...)...)
	are(t, m, "", "")
	lastIs(t, m, "B1 C1 T!A1 T!B1", "")
}

func TestDoneTurnsNothingElse(t *testing.T) { // Promise 15.4: not the contents, the version, Last, nor another cell's flag.
	m := halfDone(t)
	for m.Count() > 0 {
		c := firstReady(t, m)
		graphAhead, lastAhead, stale := tellsGraph(m), m.Last(), all(m, m.StaleOf)
		if why := m.Done(c); why != api.OK {
			t.Fatal(why)
		}
		lastIs(t, m, names(lastAhead.Stale), names(lastAhead.Fresh))
		without := slices.DeleteFunc(stale, func(x api.Cell) bool { return x == c })
		if tellsGraph(m) != graphAhead || !slices.Equal(all(m, m.StaleOf), without) {
			t.Fatalf("Done(%v): stale are %s, want %s", c, names(all(m, m.StaleOf)), names(without))
		}
	}
}

func TestDoneThenStale(t *testing.T) { // Promises 15.1, 15.4: what was done is stale again, if an edit makes it so.
	m := opened(t, "A1", "1", "B1", "=A1", "C1", "=B1")
	for range 3 {
		done(t, m, "B1")
		edited(t, m, "A1", "1")
		lastIs(t, m, "B1", "")
		notReady(t, m, at("C1"))
		done(t, m, "B1 C1")
		edited(t, m, "A1", "1")
		lastIs(t, m, "B1 C1", "")
	}
}
