package tasks

import (
	"fmt"
	"math/rand"
	"slices"
	"testing"

	"whittle/api"
)

func TestSheetsHandedIn(t *testing.T) { // R3: names are not changed, spare room included, and not kept.
	sheets, whole := roomy([]string{"S", "T", "U"}, "ROOM", "ROOM")
	was := slices.Clone(whole)
	x, why := New(sheets...)
	if why != api.OK || !slices.Equal(whole, was) {
		t.Fatal(why, whole)
	}
	fill(whole, "OVER")
	edited(t, x, "A1", "=T!A1", "T!A1", "=2")
	settle(t, x)
	valueIs(t, x, "A1", n(2))
	if !slices.Equal(x.Sheets(), was[:3]) {
		t.Error(x.Sheets())
	}
}

func TestChangesHandedIn(t *testing.T) { // R3: changes are not changed, spare room included, and not kept; nil and an empty list are one.
	r := rand.New(rand.NewSource(1611))
	room := put("B2", "=A1")
	x, want := opened(t), newModel()
	for range 60 {
		l, whole := roomy(randomEdit(r, true), room, room)
		was := slices.Clone(whole)
		if x.Edit(l...).Code == api.OK {
			want.edit(l)
		}
		if !slices.Equal(whole, was) {
			t.Fatalf("%v, handed in as %v", whole, was)
		}
		fill(whole, put("C1", "=A1+T!B2"))
		agrees(t, x, want)
		task := r.Intn(3)
		playTick(t, true, task, r.Intn(5), x, want)
		if !slices.Equal(whole, slices.Repeat([]api.Change{put("C1", "=A1+T!B2")}, len(whole))) {
			t.Fatal("what was handed in is changed later")
		}
	}
	for _, l := range [][]api.Change{nil, {}, make([]api.Change, 0, 3)} {
		refused(t, x, api.ErrNone, l...)
	}
}

func TestAreasHandedIn(t *testing.T) { // R3: areas are not changed, spare room included, and not kept, taken or refused; nil and an empty list are one.
	x := opened(t, "A1", "=1", "C3", "=2")
	l, whole := roomy(areas("C1:C9 D4"), area("A1:B9"), area("A1"))
	was := slices.Clone(whole)
	if why := x.See(0, l...); why != api.OK || !slices.Equal(whole, was) {
		t.Fatal(why, whole)
	}
	fill(whole, area("A1:A9"))
	nextIs(t, x, 0, "C3")
	edited(t, x, "B1", "=3", "C2", "=5")
	nextIs(t, x, 0, "C2")
	if !slices.Equal(x.Areas(0), areas("C1:C9 D4")) {
		t.Error(x.Areas(0))
	}
	bads, whole := roomy(areas("A1 T!A1"), area("B1"))
	was = slices.Clone(whole)
	if why := x.See(0, bads...); why != api.ErrSee || !slices.Equal(whole, was) {
		t.Error(why, whole)
	}
	for _, none := range [][]api.Area{nil, {}, make([]api.Area, 0, 3)} {
		seen(t, x, 0, "C1")
		if why := x.See(0, none...); why != api.OK || len(x.Areas(0)) != 0 {
			t.Error(why, x.Areas(0))
		}
		nextIs(t, x, 0, "A1")
	}
}

// apart holds that two answers of one call share no memory, with one another and with what is kept: they may be written over and grown.
func apart[E comparable](t *testing.T, what string, ask func() []E, with E) {
	t.Helper()
	one, two := ask(), ask()
	still := slices.Clone(two)
	if len(still) == 0 {
		t.Fatalf("%s tells nothing", what)
	}
	fill(one, with)
	one = append(one[:0], with, with, with, with, with)
	if !slices.Equal(two, still) || !slices.Equal(ask(), still) || len(one) != 5 {
		t.Errorf("%s: two answers share memory: %v, want %v", what, two, still)
	}
}

func TestToldIsNewMemory(t *testing.T) { // R3: what Aborted, Areas and Flight answer may be written over and grown, spare room too, with no change of what is told.
	x := busy(t)
	seen(t, x, 0, "A1:B2 IV1")
	seen(t, x, 1, "T!A1:B2")
	edited(t, x, "T!A2", "9", "C1", "=T!C1", "A2", "=8", "T!A3", "=SUMPRODUCT(S!A1:B2,S!B1:C2)+T!B1")
	edited(t, x, "D1", "=1+(2+(3+SUM(A1,MAX(T!C1,T!C2:C9))))")
	seen(t, x, 0, "D1")
	ticked(t, x, 0, 8, 8)
	edited(t, x, "D1", "=1+(2+(3+SUM(A1,MAX(T!C1,T!C2:C9))))")
	abortedIs(t, x, "D1")
	ticked(t, x, 0, 8, 8)
	was := tellsAll(x)
	apart(t, "Aborted", x.Aborted, at("Z99"))
	apart(t, "Areas", func() []api.Area { return x.Areas(0) }, area("Z99"))
	apart(t, "Areas", func() []api.Area { return x.Areas(1) }, area("T!Z99"))
	apart(t, "Stack", func() []api.Value { return x.Flight(0).Frame.Stack }, txt("over"))
	apart(t, "Accs", func() []api.Acc { return x.Flight(0).Frame.Accs }, api.Acc{Fn: 99})
	if tellsAll(x) != was {
		t.Error("what was told is kept")
	}
	ticked(t, x, 0, 24-8, 24-8)
	valueIs(t, x, "D1", n(1+2+3+1+6))
}

func TestTracedIsNewMemory(t *testing.T) { // R3: the events that Trace answers may be written over and grown, and share nothing with those told later.
	x := opened(t, "A1", "2", "B1", "=A1+A1", "C1", "=B1*2")
	one := traced(t, x, 0, 3)
	still := slices.Clone(one)
	two := traced(t, x, 0, 3)
	fill(two, api.Event{Wrote: true, V: txt("over")})
	two = append(two[:0], make([]api.Event, 40)...)
	if !slices.Equal(one, still) || len(two) != 40 {
		t.Error(one)
	}
	fill(one, api.Event{Wrote: true, V: txt("over")})
	ticked(t, x, 0, 9, 2)
	valueIs(t, x, "B1", n(4))
	valueIs(t, x, "C1", n(8))
}

func TestToldStays(t *testing.T) { // R3: what was told is not turned by what comes later.
	x := midway(t)
	aborted, views, flight := x.Aborted(), x.Areas(0), x.Flight(1)
	was := fmt.Sprint(aborted, views, flight)
	events := traced(t, x, 1, 3)
	told := fmt.Sprint(events)
	seen(t, x, 0, "C1 C2 C3")
	ticked(t, x, 1, 2, 2)
	edited(t, x, "T!B1", "=1", "C2", "")
	edited(t, x, "T!B1", "")
	settle(t, x)
	if fmt.Sprint(aborted, views, flight) != was || fmt.Sprint(events) != told {
		t.Error(aborted, views, flight, events)
	}
}
