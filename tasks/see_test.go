package tasks

import (
	"slices"
	"testing"

	"whittle/api"
)

// eight are areas of a sheet, as many as one viewport may have.
func eight(sheet int) []api.Area {
	var l []api.Area
	for i := range api.MaxSee {
		l = append(l, api.Area{Sheet: sheet, Top: i, Left: i, Bottom: 2 * i, Right: i})
	}
	return l
}

// wrongAreas are such as no viewport of the task 0 may have.
func wrongAreas() []api.Area {
	const least, most = -1 << 63, 1<<63 - 1
	l := []api.Area{{Sheet: 1}, {Sheet: 2, Bottom: 9, Right: 9}, {Sheet: 3}, {Sheet: api.MaxSheets}, {Sheet: -1}, {Sheet: most}, {Sheet: least}}
	for _, k := range []int{-1, least} {
		l = append(l, api.Area{Top: k}, api.Area{Left: k}, api.Area{Bottom: k}, api.Area{Right: k})
	}
	for _, k := range []int{api.MaxRows, most} {
		l = append(l, api.Area{Bottom: k}, api.Area{Top: k, Bottom: k})
	}
	for _, k := range []int{api.MaxCols, most} {
		l = append(l, api.Area{Right: k}, api.Area{Left: k, Right: k})
	}
	return append(l, api.Area{Top: 2, Bottom: 1}, api.Area{Left: 2, Right: 1})
}

// unseen is a viewport that must be refused, with nothing turned.
func unseen(t *testing.T, x *Tasks, want api.Errno, task int, l ...api.Area) {
	t.Helper()
	ahead := tellsAll(x)
	if why := x.See(task, l...); why != want {
		t.Errorf("See(%d, %v): %d, want %d", task, l, why, want)
	}
	if tellsAll(x) != ahead {
		t.Errorf("See(%d, %v), refused, has turned what is told", task, l)
	}
}

func TestSeeTaken(t *testing.T) { // Promise 16.4: from none to MaxSee areas, of the task's sheet; just these from then on, each task's by itself.
	x := opened(t, "A1", "=1", "B1", "=2", "T!A1", "=3")
	for k := range api.MaxSee + 1 {
		for task := range 3 {
			if why := x.See(task, eight(task)[:k]...); why != api.OK || !slices.Equal(x.Areas(task), eight(task)[:k]) {
				t.Fatalf("See of %d areas: %d, %v", k, why, x.Areas(task))
			}
		}
	}
	seen(t, x, 1, "T!A1:IV65536 T!B2 T!B2 T!A1:IV65536") // overlapping, twice, the greatest one
	if !slices.Equal(x.Areas(0), eight(0)) || !slices.Equal(x.Areas(2), eight(2)) {
		t.Error(x.Areas(0), x.Areas(2))
	}
	seen(t, x, 0, "")
	if len(x.Areas(0)) != 0 || len(x.Areas(1)) != 4 {
		t.Error(x.Areas(0), x.Areas(1))
	}
}

func TestSeeRefused(t *testing.T) { // Promise 16.4, R2, R5: ErrTask ahead of ErrSee; a wrong area anywhere in the list; one area too many.
	x := midway(t)
	for _, task := range oddTasks() {
		unseen(t, x, api.ErrTask, task)
		unseen(t, x, api.ErrTask, task, api.Area{Sheet: task})
		unseen(t, x, api.ErrTask, task, api.Area{Sheet: 1, Top: 2, Bottom: 1})
		unseen(t, x, api.ErrTask, task, make([]api.Area, api.MaxSee+1)...)
	}
	for _, a := range wrongAreas() {
		unseen(t, x, api.ErrSee, 0, a)
		for i := range api.MaxSee {
			l := eight(0)
			l[i] = a
			unseen(t, x, api.ErrSee, 0, l...)
		}
		unseen(t, x, api.ErrSee, 0, append(eight(0), a)...)
	}
	unseen(t, x, api.ErrSee, 0, append(eight(0), api.Area{})...)
	unseen(t, x, api.ErrSee, 0, make([]api.Area, 1000)...)
	unseen(t, x, api.ErrSee, 1, api.Area{})
	unseen(t, x, api.ErrSee, 2, append(eight(2)[:3], api.Area{Sheet: 1})...)
}

func TestAreasOfNoTask(t *testing.T) { // Promise 16.4: none.
	x := midway(t)
	for _, task := range oddTasks() {
		if l := x.Areas(task); len(l) != 0 {
			t.Error(task, l)
		}
	}
}

func TestSeeTurnsNoFrame(t *testing.T) { // Promise 16.5: a viewport that is laid turns nothing of a frame that is under way; behind it what is seen goes ahead.
	x := opened(t, "A1", "=1+2", "B1", "=3", "C1", "=4")
	ticked(t, x, 0, 2, 2)
	flight := x.Flight(0)
	for _, views := range []string{"B1", "", "C1 B1", "A2:IV65536", "C1"} {
		seen(t, x, 0, views)
		parkedIs(t, x, 0, "A1", 2)
		if !sameFlight(x.Flight(0), flight) {
			t.Error(x.Flight(0))
		}
	}
	staleAre(t, x, "A1 B1 C1", "A1 B1 C1")
	ticked(t, x, 0, 2, 2)
	valueIs(t, x, "A1", n(3))
	nextIs(t, x, 0, "C1")
}

func TestSeeStays(t *testing.T) { // Promise 16.4: a viewport stays behind edits, accepted or not, and ticks.
	x := opened(t, "A1", "=1", "C1", "=2")
	seen(t, x, 0, "C1:C9")
	edited(t, x, "C2", "=C1", "A2", "=A1")
	x.Edit(put("C2", "=1+"))
	ticked(t, x, 0, 4, 4) // C1 and, as it is seen, C2 ahead of A1
	valueIs(t, x, "C2", n(2))
	if !slices.Equal(x.Areas(0), areas("C1:C9")) {
		t.Error(x.Areas(0))
	}
	edited(t, x, "C3", "=A1")
	nextIs(t, x, 0, "A1") // C3 is seen, but not ready
	ticked(t, x, 0, 2, 2)
	nextIs(t, x, 0, "C3")
}
