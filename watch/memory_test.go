package watch

import (
	"slices"
	"testing"

	"whittle/api"
)

func TestSheetsHandedIn(t *testing.T) { // R3: names are not changed, spare room included, and not kept.
	sheets, whole := roomy([]string{"S", "T", "U"}, "ROOM", "ROOM")
	was := slices.Clone(whole)
	x, why := New(sheets...)
	if why != api.OK || !slices.Equal(whole, was) {
		t.Fatal(why, whole)
	}
	fill(whole, "OVER")
	touches(t, x, "A1 T!A1", "A1", "=T!A1", "T!A1", "=2")
	if !slices.Equal(x.Sheets(), was[:3]) {
		t.Error(x.Sheets())
	}
}

func TestChangesHandedIn(t *testing.T) { // R3: changes are not changed, spare room included, and not kept; nil and an empty list are one.
	room := put("C9", "=A1")
	x := settled(t, "A1", "1", "B1", "=A1", "C1", "=B1")
	for _, texts := range [][]string{{"A1", "2"}, {"B1", "=C1", "A1", ""}, {"U!A1", "=1+"}, {"C1", "4", "T!A1", "", "B1", "=A1"}, {"A1", "", "A1", ""}} {
		l, whole := roomy(puts(texts...), room, room)
		was := slices.Clone(whole)
		x.Edit(l...)
		if !slices.Equal(whole, was) {
			t.Fatalf("%v, handed in as %v", whole, was)
		}
		still := tellsAll(x)
		fill(whole, put("IV1", "=A1+T!B2"))
		if tellsAll(x) != still {
			t.Fatal("what was handed in is kept")
		}
		traced(t, x, 0, 3)
		if !slices.Equal(whole, slices.Repeat([]api.Change{put("IV1", "=A1+T!B2")}, len(whole))) {
			t.Fatal("what was handed in is changed later")
		}
	}
	for _, l := range [][]api.Change{nil, {}, make([]api.Change, 0, 3)} {
		refused(t, x, api.ErrNone, l...)
	}
}

func TestSinceIsNewMemory(t *testing.T) { // R3: what Since answers may be written over and grown, spare room too, with no change of what is told.
	x := midway(t)
	was := tellsAll(x)
	for m := range x.Moment() {
		one, _ := x.Since(m)
		two, _ := x.Since(m)
		still := slices.Clone(two)
		if len(still) == 0 {
			t.Fatalf("nothing was touched behind the moment %d", m)
		}
		fill(one, at("Z99"))
		one = append(one[:0], slices.Repeat([]api.Cell{at("Z98")}, 2*len(still))...)
		if again, _ := x.Since(m); !slices.Equal(two, still) || !slices.Equal(again, still) || len(one) != 2*len(still) {
			t.Errorf("two answers of Since(%d) share memory: %v, want %v", m, two, still)
		}
	}
	if tellsAll(x) != was {
		t.Error("what was told is kept")
	}
}

func TestTracedIsNewMemory(t *testing.T) { // R3: the events that Trace answers may be written over and grown, and share nothing with those told later, nor with what is touched.
	x := opened(t, "A1", "2", "B1", "=A1+A1", "C1", "=B1*2")
	one := traced(t, x, 0, 5)
	still := slices.Clone(one)
	was := tellsAll(x)
	fill(one, api.Event{Cell: at("Z99"), Wrote: true, V: txt("over")})
	if tellsAll(x) != was {
		t.Error("what was told is kept")
	}
	two := traced(t, x, 0, 3)
	fill(two, api.Event{Cell: at("Z99"), Wrote: true, V: txt("over")})
	two = append(two[:0], make([]api.Event, 40)...)
	if len(still) != 5 || still[3] != (api.Event{Cell: at("B1"), Wrote: true, V: n(4)}) || len(two) != 40 {
		t.Error(still)
	}
	momentIs(t, x, 3)
	sinceIs(t, x, 1, "B1 C1")
	reads(t, x, "C1", fresh(n(8), 1))
}

func TestToldStays(t *testing.T) { // R3: what was told is not turned by what comes later.
	x := midway(t)
	l, _ := x.Since(0)
	was := slices.Clone(l)
	edited(t, x, "A1", "=IV1", "T!B1", "=1", "C2", "", "Z9", "")
	settle(t, x)
	x.Since(0)
	if !slices.Equal(l, was) {
		t.Error(names(l...))
	}
}
