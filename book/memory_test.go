package book

import (
	"math/rand"
	"slices"
	"testing"

	"whittle/api"
)

// roomy is a list with spare room in which something stands, and the whole of it.
func roomy[E any](l []E, spare ...E) (short, whole []E) {
	whole = append(slices.Clone(l), spare...)
	return whole[:len(l)], whole
}

// fill writes over a list, its spare room too.
func fill[E any](l []E, with E) {
	l = l[:cap(l)]
	for i := range l {
		l[i] = with
	}
}

func TestNamesHandedIn(t *testing.T) { // R3: the names are not changed, spare room included, and not kept.
	names, whole := roomy([]string{"S", "T"}, "ROOM", "ROOM")
	was := slices.Clone(whole)
	b := made(t, names...)
	back, why := Restore(api.State{Sheets: names, Cells: []api.Held{{Text: "=T!A1"}}})
	if why != api.OK || !slices.Equal(whole, was) {
		t.Fatalf("%q, handed in as %q", whole, was)
	}
	one, two := tells(b), tells(back)
	fill(whole, "OVER")
	if tells(b) != one || tells(back) != two {
		t.Error("the names that were handed in are kept")
	}
	taken(t, b, put("A1", "=T!B1"))
	taken(t, back, put("A1", "=T!B1"))
}

func TestChangesHandedIn(t *testing.T) { // R3: changes are not changed, spare room included, and not kept.
	r := rand.New(rand.NewSource(116))
	room := api.Change{Cell: at("B2"), Text: "room"}
	b := opened(t)
	for range 500 {
		l, whole := roomy(randomEdit(r, true), room, room)
		was := slices.Clone(whole)
		b.Edit(l...)
		if !slices.Equal(whole, was) {
			t.Fatalf("%v, handed in as %v", whole, was)
		}
		ahead := tells(b)
		fill(whole, api.Change{Cell: at("C1"), Text: "=A1+99"})
		if tells(b) != ahead {
			t.Fatal("changes that were handed in are kept")
		}
	}
}

func TestStateHandedIn(t *testing.T) { // R3: a state's lists are not changed, spare room included, and not kept.
	r := rand.New(rand.NewSource(117))
	room := api.Held{Cell: at("B2"), Text: "room"}
	for range 200 {
		b := opened(t)
		b.Edit(randomEdit(r, false)...)
		s := littered(r, stateOf(b))
		cells, whole := roomy(s.Cells, room, room)
		was := slices.Clone(whole)
		s.Cells = cells
		back, why := Restore(s)
		if why != api.OK || !slices.Equal(whole, was) {
			t.Fatalf("%v, handed in as %v: %d", whole, was, why)
		}
		fill(whole, api.Held{Cell: at("C1"), Text: "=A1+99"})
		fill(s.Sheets, "OVER")
		if tells(back) != tells(b) {
			t.Fatal("a state that was handed in is kept")
		}
	}
}

func TestToldIsNewMemory(t *testing.T) { // R3: what is told may be written over, lists in it and spare room too.
	b := opened(t, puts("A1", "=CHOOSE(A2,1,2,CHOOSE(B1,3,4))", "B1", "=SUM(A1:B2,T!A1)", "C1", "5", "A3", "x", "T!B1", "=CHOOSE(S!A1,1,2)+CHOOSE(A1,1,2)")...)
	was := tells(b)
	for range 2 {
		fill(b.Sheets(), "OVER")
		for sheet := range 2 {
			for _, c := range b.Cells(sheet) {
				writeOver(t, b, c)
			}
			fill(b.Cells(sheet), at("Z99"))
		}
		if tells(b) != was {
			t.Fatal("what was told shares memory with the book")
		}
	}
	taken(t, b, put("D4", "=T!A1"))
}

// writeOver writes over all that is told of a cell, list by list: the others must stay.
func writeOver(t *testing.T, b *Book, c api.Cell) {
	t.Helper()
	list, other := b.Code(c), b.Code(c)
	uses, same := b.Uses(c), b.Uses(c)
	for i := range list {
		fill(list[i].To, -9)
		for k := i + 1; k < len(list); k++ {
			if !slices.Equal(list[k].To, other[k].To) {
				t.Fatalf("two lists in the code of %v share memory", c)
			}
		}
	}
	fill(list, api.Ins{Op: -1})
	fill(uses, api.Area{Sheet: -1})
	again := b.Code(c)
	for i := range other {
		if other[i].Op != again[i].Op || !slices.Equal(other[i].To, again[i].To) {
			t.Fatalf("two codes of %v share memory", c)
		}
	}
	if !slices.Equal(same, b.Uses(c)) {
		t.Fatalf("two answers of Uses of %v share memory", c)
	}
}
