package view

import (
	"fmt"
	"math/rand"
	"slices"
	"testing"

	"whittle/api"
)

func TestSheetsHandedIn(t *testing.T) { // R3: names are not changed, spare room included, and not kept.
	sheets, whole := roomy([]string{"S", "T", "U"}, "ROOM", "ROOM")
	was := slices.Clone(whole)
	x, why := New(sheets...)
	if why != api.OK || !slices.Equal(whole, was) {
		t.Fatal(why, whole)
	}
	fill(whole, "OVER")
	edited(t, x, "A1", "=T!A1", "T!A1", "=2")
	settle(t, x)
	reads(t, x, "A1", fresh(n(2), 1))
	if !slices.Equal(x.State().Sheets, was[:3]) {
		t.Error(x.State().Sheets)
	}
}

func TestChangesHandedIn(t *testing.T) { // R3: changes are not changed, spare room included, and not kept; nil and an empty list are one.
	r := rand.New(rand.NewSource(1711))
	room := put("B2", "=A1")
	x, want := opened(t), newModel()
	for range 60 {
		l, whole := roomy(randomEdit(r, true), room, room)
		was := slices.Clone(whole)
		if x.Edit(l...).Code == api.OK {
			want.edit(l)
		}
		if !slices.Equal(whole, was) {
			t.Fatalf("%v, handed in as %v", whole, was)
		}
		fill(whole, put("C1", "=A1+T!B2"))
		agrees(t, x, want)
		playTick(t, true, r.Intn(3), r.Intn(5), x, want)
		if !slices.Equal(whole, slices.Repeat([]api.Change{put("C1", "=A1+T!B2")}, len(whole))) {
			t.Fatal("what was handed in is changed later")
		}
	}
	for _, l := range [][]api.Change{nil, {}, make([]api.Change, 0, 3)} {
		refused(t, x, api.ErrNone, l...)
	}
}

// apart holds that two answers of one call share no memory, with one another and with what is kept: they may be written over and grown.
func apart[E comparable](t *testing.T, what string, ask func() []E, with E) {
	t.Helper()
	one, two := ask(), ask()
	still := slices.Clone(two)
	if len(still) == 0 {
		t.Fatalf("%s tells nothing", what)
	}
	fill(one, with)
	one = append(one[:0], with, with, with, with, with)
	if !slices.Equal(two, still) || !slices.Equal(ask(), still) || len(one) != 5 {
		t.Errorf("%s: two answers share memory: %v, want %v", what, two, still)
	}
}

// laden is a view whose state has something in each of its lists.
func laden(t *testing.T) *View {
	t.Helper()
	x := midway(t)
	edited(t, x, "B1", "=1+(2+(3+SUM(A1,MAX(IV1,C9:C20))))")
	ticked(t, x, 0, 8, 8)
	parkedIs(t, x, 0, "B1", 8)
	seen(t, x, 1, "T!A1:B2")
	return x
}

func TestToldIsNewMemory(t *testing.T) { // R3: what Window and State answer may be written over and grown, lists in it too, spare room too, with no change of what is told.
	x := laden(t)
	was := tellsAll(x)
	apart(t, "Window", func() []api.Shown { l, _ := x.Window(0); return l }, api.Shown{Cell: at("Z99")})
	apart(t, "Window", func() []api.Shown { l, _ := x.Window(2); return l }, api.Shown{Cell: at("Z99")})
	apart(t, "Sheets", func() []string { return x.State().Sheets }, "OVER")
	apart(t, "Cells", func() []api.Held { return x.State().Cells }, api.Held{Text: "over"})
	for task := range 3 {
		apart(t, "Views", func() []api.Area { return x.State().Views[task] }, area("Z99"))
	}
	apart(t, "Stack", func() []api.Value { return x.State().Frames[0].Frame.Stack }, txt("over"))
	apart(t, "Accs", func() []api.Acc { return x.State().Frames[0].Frame.Accs }, api.Acc{Fn: 99})
	apart(t, "Accs", func() []api.Acc { return x.State().Frames[1].Frame.Accs }, api.Acc{Fn: 99})
	s, still := x.State(), x.State()
	overwrite(s)
	if tellsAll(x) != was || !sameState(x.State(), still) {
		t.Error("what was told is kept")
	}
}

func TestStateIsOneMemory(t *testing.T) { // R3: no two lists of one state share memory: each grows by itself.
	s, still := laden(t).State(), laden(t).State()
	for i := range s.Views {
		grown := append(s.Views[i], area("Z98"), area("Z99"))
		fill(grown, area("Z99"))
		s.Views[i] = still.Views[i]
		if !sameState(s, still) {
			t.Fatalf("the viewport of %d shares memory", i)
		}
	}
	for i := range s.Frames {
		f, g := &s.Frames[i].Frame, still.Frames[i].Frame
		fill(append(f.Stack, n(98)), n(99))
		f.Stack = g.Stack
		fill(append(f.Accs, api.Acc{Fn: 98}), api.Acc{Fn: 99})
		f.Accs = g.Accs
		if !sameState(s, still) {
			t.Fatalf("the frame of %d shares memory", i)
		}
	}
	fill(append(s.Cells, api.Held{}), api.Held{Text: "over"})
	s.Cells = still.Cells
	if !sameState(s, still) {
		t.Fatal("the cells share memory")
	}
}

func TestTracedIsNewMemory(t *testing.T) { // R3: the events that Trace answers may be written over and grown, and share nothing with those told later.
	x := opened(t, "A1", "2", "B1", "=A1+A1", "C1", "=B1*2")
	one := traced(t, x, 0, 3)
	still := slices.Clone(one)
	two := traced(t, x, 0, 3)
	fill(two, api.Event{Wrote: true, V: txt("over")})
	two = append(two[:0], make([]api.Event, 40)...)
	if !slices.Equal(one, still) || len(two) != 40 {
		t.Error(one)
	}
	fill(one, api.Event{Wrote: true, V: txt("over")})
	ticked(t, x, 0, 9, 2)
	reads(t, x, "B1", fresh(n(4), 1))
	reads(t, x, "C1", fresh(n(8), 1))
}

func TestToldStays(t *testing.T) { // R3: what was told is not turned by what comes later.
	x := laden(t)
	s := x.State()
	l, _ := x.Window(0)
	was := fmt.Sprint(s, l)
	ticked(t, x, 1, 1, 1)
	seen(t, x, 0, "C1 C2 C3")
	edited(t, x, "A1", "=IV1", "T!B1", "=1", "C2", "")
	edited(t, x, "T!B1", "")
	settle(t, x)
	if fmt.Sprint(s, l) != was {
		t.Error(s, l)
	}
}
