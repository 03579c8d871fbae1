package graph

import (
	"math/rand"
	"slices"
	"testing"

	"whittle/api"
)

// roomy is a list with spare room in which something stands, and the whole of it.
func roomy[E any](l []E, spare ...E) (short, whole []E) {
	whole = append(slices.Clone(l), spare...)
	return whole[:len(l)], whole
}

// fill writes over a list, its spare room too.
func fill[E any](l []E, with E) {
	l = l[:cap(l)]
	for i := range l {
		l[i] = with
	}
}

func TestSheetsHandedIn(t *testing.T) { // R3: names, and a state's lists, are not changed, spare room included, and not kept.
	sheets, whole := roomy([]string{"S", "T", "U"}, "ROOM", "ROOM")
	held := []api.Held{{Cell: at("A1"), Text: "=T!A1"}, {Cell: at("T!A1"), Text: "=S!A1+SUM(A1:Z9)"}, {Cell: at("T!B2"), Text: "=A1"}}
	cells, allCells := roomy(held, api.Held{Cell: at("U!A1"), Text: "=S!A1"})
	was, were := slices.Clone(whole), slices.Clone(allCells)
	g, why := New(sheets...)
	again, whyNot := Restore(api.State{Sheets: sheets, Cells: cells, Version: 4})
	if why != api.OK || whyNot != api.OK || !slices.Equal(whole, was) || !slices.Equal(allCells, were) {
		t.Fatal(why, whyNot, whole, allCells)
	}
	one, two := tellsAll(g), tellsAll(again)
	fill(whole, "OVER")
	fill(allCells, api.Held{Cell: at("B1"), Text: "=A1"})
	if tellsAll(g) != one || tellsAll(again) != two {
		t.Error("what was handed in is kept")
	}
	cyclics(t, again, "A1 T!A1 T!B2")
}

func TestChangesHandedIn(t *testing.T) { // R3: changes are not changed, spare room included, and not kept.
	r := rand.New(rand.NewSource(129))
	room := put("B2", "=A1")
	g := opened(t)
	for range 40 {
		l, whole := roomy(randomEdit(r, true), room, room)
		was := slices.Clone(whole)
		g.Edit(l...)
		if !slices.Equal(whole, was) {
			t.Fatalf("%v, handed in as %v", whole, was)
		}
		ahead := tellsAll(g)
		fill(whole, put("C1", "=A1+T!B2"))
		if tellsAll(g) != ahead {
			t.Fatal("changes that were handed in are kept")
		}
	}
	agrees(t, g)
}

func TestReachHandedIn(t *testing.T) { // R3: Reach neither changes nor keeps its cells.
	g := example(t)
	cs, whole := roomy(list("D1 A1 D1"), at("C1"), at("C1"), at("C1"), at("C1"), at("C1"), at("C1"))
	was := slices.Clone(whole)
	l := g.Reach(cs...)
	if !slices.Equal(whole, was) {
		t.Errorf("%v, handed in as %v", whole, was)
	}
	fill(whole, at("Z9"))
	if names(l) != "B1 C1 D1 E1 F1" {
		t.Error("Reach shares memory with what was handed in:", names(l))
	}
	fill(l, at("Y9"))
	if whole[0] != at("Z9") || names(g.Reach(at("A1"), at("D1"))) != "B1 C1 D1 E1 F1" {
		t.Error(whole)
	}
}

func TestToldIsNewMemory(t *testing.T) { // R3: what is told may be written over, spare room too; no two answers share any.
	g := opened(t, "A1", "=B1", "B1", "=A1+SUM(A1:Z9)", "C1", "=SUM(A1:B1)", "A2", "=T!A1", "B2", "=A2+A2", "T!A1", "5", "T!B1", "=SUM(S!A1:IV65536)")
	was := tellsAll(g)
	for _, c := range universe() {
		for _, ask := range []func() []api.Cell{
			func() []api.Cell { return g.Users(c) },
			func() []api.Cell { return g.Reach(c) },
			func() []api.Cell { return g.Reach(c, c, at("A1")) },
			func() []api.Cell { return g.Circle(c) },
			func() []api.Cell { return g.Path(c, at("T!B1")) },
			func() []api.Cell { return g.Path(at("A1"), c) },
		} {
			one, two := ask(), ask()
			still := slices.Clone(two)
			fill(one, at("Z99"))
			if !slices.Equal(two, still) || !slices.Equal(ask(), still) {
				t.Fatalf("two answers of %v share memory", c)
			}
		}
		fill(g.Uses(c), api.Area{Sheet: -1})
		fill(g.Code(c), api.Ins{})
	}
	fill(g.Sheets(), "OVER")
	fill(g.Cells(0), at("Z99"))
	if tellsAll(g) != was {
		t.Error("what was told shares memory with the graph")
	}
	edited(t, g, "C1", "=C2", "A1", "=C1")
	agrees(t, g)
}
