package marks

import (
	"math/rand"
	"slices"
	"testing"

	"whittle/api"
)

func TestSheetsHandedIn(t *testing.T) { // R3: names are not changed, spare room included, and not kept.
	sheets, whole := roomy([]string{"S", "T", "U"}, "ROOM", "ROOM")
	was := slices.Clone(whole)
	m, why := New(sheets...)
	if why != api.OK || !slices.Equal(whole, was) {
		t.Fatal(why, whole)
	}
	fill(whole, "OVER")
	edited(t, m, "A1", "=T!A1", "T!A1", "=2")
	are(t, m, "A1 T!A1", "T!A1")
	if !slices.Equal(m.Sheets(), was[:3]) {
		t.Error(m.Sheets())
	}
}

func TestChangesHandedIn(t *testing.T) { // R3: changes are not changed, spare room included, and not kept; nil and an empty list are one.
	r := rand.New(rand.NewSource(1509))
	room := put("B2", "=A1")
	m, want := opened(t), newModel()
	for range 40 {
		l, whole := roomy(randomEdit(r, true), room, room)
		was := slices.Clone(whole)
		if m.Edit(l...).Code == api.OK {
			want.edit(l)
		}
		if !slices.Equal(whole, was) {
			t.Fatalf("%v, handed in as %v", whole, was)
		}
		fill(whole, put("C1", "=A1+T!B2"))
		agrees(t, m, want)
	}
	for _, l := range [][]api.Change{nil, {}, make([]api.Change, 0, 3)} {
		refused(t, m, api.ErrNone, l...)
	}
}

func TestToldIsNewMemory(t *testing.T) { // R3: what Last, StaleOf and ReadyOf answer may be written over and grown, spare room too; no two lists share any.
	m := opened(t, "A1", "=1", "B1", "=A1", "C1", "=B1", "A2", "=2", "T!A1", "=3", "T!B1", "=S!C1", "U!A1", "=5")
	edited(t, m, "A3", "=A1", "B3", "=A3", "T!A1", "3", "U!A1", "", "A2", "4")
	lastIs(t, m, "A3 B3", "A2 T!A1 U!A1")
	was := tellsAll(m)
	for _, ask := range []func() []api.Cell{
		func() []api.Cell { return m.Last().Stale },
		func() []api.Cell { return m.Last().Fresh },
		func() []api.Cell { return m.StaleOf(0) },
		func() []api.Cell { return m.StaleOf(1) },
		func() []api.Cell { return m.ReadyOf(0) },
		func() []api.Cell { return m.ReadyOf(1) },
	} {
		one, two := ask(), ask()
		still := slices.Clone(two)
		fill(one, at("Z99"))
		one = append(one[:0], at("Y9"), at("Y8"), at("Y7"), at("Y6"))
		if !slices.Equal(two, still) || !slices.Equal(ask(), still) || len(one) != 4 {
			t.Fatalf("two answers share memory: %s, want %s", names(two), names(still))
		}
	}
	l := m.Last()
	fill(l.Stale, at("Z99"))
	if names(l.Fresh) != "A2 T!A1 U!A1" {
		t.Error("the lists of one answer share memory:", names(l.Fresh))
	}
	l = m.Last()
	fill(l.Fresh, at("Z99"))
	if names(l.Stale) != "A3 B3" || tellsAll(m) != was {
		t.Error("the lists of one answer share memory:", names(l.Stale))
	}
}

func TestToldStays(t *testing.T) { // R3: what was told is not turned by what comes later.
	m := opened(t, "A1", "=1", "B1", "=A1", "C1", "=2")
	last, stale, ready := m.Last(), m.StaleOf(0), m.ReadyOf(0)
	done(t, m, "A1 C1 B1")
	edited(t, m, "A1", "3", "A2", "=4", "B2", "=5", "C2", "=6")
	edited(t, m, "A2", "")
	if names(last.Stale) != "A1 B1 C1" || len(last.Fresh) != 0 || names(stale) != "A1 B1 C1" || names(ready) != "A1 C1" {
		t.Error(last, stale, ready)
	}
}
