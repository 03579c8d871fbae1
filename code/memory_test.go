package code

import (
	"reflect"
	"slices"
	"testing"

	"whittle/api"
)

// roomy is a list with spare room in which something stands, and the whole of it.
func roomy[E any](l []E, spare ...E) (short, whole []E) {
	whole = append(slices.Clone(l), spare...)
	return whole[:len(l)], whole
}

// formulasWithLists are formulas whose codes have places.
func formulasWithLists() []string {
	return []string{"1", "A1", "CHOOSE(1,2)", "CHOOSE(1,2,3,4)+CHOOSE(5,6,7)", "CHOOSE(CHOOSE(1,2,3),CHOOSE(4,5,6,7,8),A1)", "IF(1,SUM(A1:A2,CHOOSE(1,2,3)),LOOKUP(1,A1:A2,B1:B2))"}
}

func TestHandedInStays(t *testing.T) { // R3: what is handed in is not changed, spare room included, and not kept.
	for _, s := range formulasWithLists() {
		l, wholeRow := roomy(row(t, s), api.Node{Name: "KEPT"}, api.Node{Name: "KEPT"})
		names, wholeNames := roomy([]string{"S", "T"}, "KEPT", "KEPT")
		wasRow, wasNames := slices.Clone(wholeRow), slices.Clone(wholeNames)
		code, _ := Flatten(l, api.Cell{}, names...)
		if !slices.Equal(wholeRow, wasRow) || !slices.Equal(wholeNames, wasNames) {
			t.Fatalf("Flatten of %s has changed what it was given", s)
		}
		want := told(code)
		clear(wholeRow)
		clear(wholeNames)
		if told(code) != want {
			t.Fatalf("Flatten of %s keeps what it was given", s)
		}
	}
}

func TestListsHandedInStay(t *testing.T) { // R3: lists in a list too.
	for _, s := range formulasWithLists() {
		l, whole := roomy(flat(t, s), push(99), push(98))
		var rooms [][]int
		for i := range l {
			var room []int
			l[i].To, room = roomy(l[i].To, -7, -8)
			rooms = append(rooms, room)
		}
		was, wasRooms := slices.Clone(whole), make([][]int, len(rooms))
		for i := range rooms {
			wasRooms[i] = slices.Clone(rooms[i])
		}
		Check(l)
		Bounds(l)
		first := Uses(l)
		if !reflect.DeepEqual(rooms, wasRooms) || told(whole) != told(was) {
			t.Fatalf("the code of %s was changed", s)
		}
		kept := slices.Clone(first)
		clear(whole)
		if !slices.Equal(first, kept) {
			t.Fatalf("Uses of the code of %s keeps it", s)
		}
	}
}

// fill writes over a list, its spare room too.
func fill[E any](l []E, with E) {
	l = l[:cap(l)]
	for i := range l {
		l[i] = with
	}
}

func TestAnswersAreNewMemory(t *testing.T) { // R3: no two lists share any, spare room too.
	for _, s := range formulasWithLists() {
		want := told(flat(t, s))
		one, two := flat(t, s), flat(t, s)
		for i := range one {
			// Each list by itself: another list of the same answer must stay.
			rest := slices.Clone(one)
			rest[i].To = slices.Clone(one[i].To)
			was := told(rest)
			fill(one[i].To, -9)
			if told(rest) != was {
				t.Fatalf("two lists in the code of %s share memory", s)
			}
		}
		fill(one, api.Ins{Op: -1})
		if told(two) != want || told(flat(t, s)) != want {
			t.Fatalf("two codes of %s share memory", s)
		}
		uses, again := Uses(two), Uses(two)
		kept := slices.Clone(again)
		fill(uses, api.Area{Sheet: -9})
		if !slices.Equal(again, kept) || !slices.Equal(Uses(two), kept) {
			t.Fatalf("two answers of Uses of the code of %s share memory", s)
		}
	}
}
