package view

import (
	"slices"
	"testing"

	"whittle/api"
)

func TestWindow(t *testing.T) { // Promise 17.3: the cells with contents that the viewport sees, in the order of cells, with what they tell.
	x := settled(t, "B2", "2", "A1", "=B2", "C1", "=A1", "A3", "=A3", "IV65536", "x", "T!A1", "=S!A1", "T!B2", "5")
	edited(t, x, "B2", "3", "B1", "=B2")
	seen(t, x, 0, "A1:C3")
	want := []api.Shown{
		{Cell: at("A1"), Seen: old(n(2), 1)},
		{Cell: at("B1"), Seen: never()},
		{Cell: at("C1"), Seen: old(n(2), 1)},
		{Cell: at("B2"), Seen: fresh(n(3), 2)},
		{Cell: at("A3"), Seen: fresh(circle(), 2)},
	}
	if l, why := x.Window(0); !slices.Equal(l, want) || why != api.OK {
		t.Errorf("%v, %d", l, why)
	}
	ticked(t, x, 0, 4, 4) // A1 and B1, which are on one level
	want[0].Seen, want[1].Seen = fresh(n(3), 2), fresh(n(3), 2)
	if l, why := x.Window(0); !slices.Equal(l, want) || why != api.OK {
		t.Errorf("%v, %d", l, why)
	}
	shows(t, x, 1, "")
	seen(t, x, 1, "T!A1:IV65536")
	shows(t, x, 1, "T!A1 T!B2")
	shows(t, x, 0, "A1 B1 C1 B2 A3")
}

func TestWindowOfAreas(t *testing.T) { // Promise 17.3: no areas, one cell, areas that meet or stand twice or the wrong way round: each cell once, in the order of cells; empty cells are left out.
	x := opened(t, "A1", "1", "B1", "=A1", "C1", "3", "A2", "4", "B2", "=B2", "C2", "=1", "A3", "7", "IV1", "8", "IV65536", "9")
	for _, row := range []struct{ views, want string }{
		{"", ""},
		{"B1", "B1"},
		{"B3", ""},
		{"D4:IU65535", ""},
		{"A1:C2", "A1 B1 C1 A2 B2 C2"},
		{"A1:B2 B1:C2 B2", "A1 B1 C1 A2 B2 C2"},
		{"C1:C2 A1:A3", "A1 C1 A2 C2 A3"},
		{"A3 A2 A1 A2 A3", "A1 A2 A3"},
		{"IV65536 IV1 A1", "A1 IV1 IV65536"},
		{"A1:IV65536 B2", "A1 B1 C1 IV1 A2 B2 C2 A3 IV65536"},
		{"A3 A2 C2 B2 C1 B1 A1 Z9", "A1 B1 C1 A2 B2 C2 A3"},
		{"A2:A2", "A2"},
	} {
		seen(t, x, 0, row.views)
		shows(t, x, 0, row.want)
	}
	seen(t, x, 0, "A1:B1")
	edited(t, x, "A1", "", "C1", "")
	shows(t, x, 0, "B1")
	edited(t, x, "A1", "=2", "B1", "")
	shows(t, x, 0, "A1")
	if why := x.See(0, area("T!A1")); why != api.ErrSee {
		t.Error(why)
	}
	shows(t, x, 0, "A1")
	seen(t, x, 0, "")
	shows(t, x, 0, "")
}

func TestWindowOfNoTask(t *testing.T) { // Promise 17.3: ErrTask, and nothing shown.
	x := opened(t, "A1", "1", "U!A1", "=1")
	for _, task := range oddTasks() {
		if l, why := x.Window(task); len(l) != 0 || why != api.ErrTask {
			t.Errorf("Window(%d): %v, %d", task, l, why)
		}
	}
	one, _ := New("S")
	for _, task := range []int{-1, 1} {
		if l, why := one.Window(task); len(l) != 0 || why != api.ErrTask {
			t.Errorf("Window(%d) of one sheet: %v, %d", task, l, why)
		}
	}
	if l, why := one.Window(0); len(l) != 0 || why != api.OK {
		t.Error(l, why)
	}
}
