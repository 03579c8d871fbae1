package view

import (
	"slices"
	"testing"

	"whittle/api"
)

// stateIs holds a view's state; the sheets are S, T and U.
func stateIs(t *testing.T, x *View, version int, cells []api.Held, views [][]api.Area, frames []api.Flight) {
	t.Helper()
	want := api.State{Sheets: []string{"S", "T", "U"}, Version: version, Cells: cells, Views: views, Frames: frames}
	if got := x.State(); !sameState(got, want) {
		t.Errorf("State: %v, want %v", got, want)
	}
}

func TestState(t *testing.T) { // Promise 17.4: sheets, version, the cells with contents in their order and what they tell, viewports and frames by task.
	x := opened(t)
	stateIs(t, x, 0, nil, make([][]api.Area, 3), make([]api.Flight, 3))
	edited(t, x, "T!A1", "=S!B1", "B1", "=SUM(A1:A9)", "A1", "2", "C1", "=C1", "A2", "=B1+A1", "B2", "5")
	cells := []api.Held{
		{Cell: at("A1"), Text: "2", V: n(2), Ever: true, Version: 1},
		{Cell: at("B1"), Text: "=SUM(A1:A9)", V: circle(), Ever: true, Version: 1},
		{Cell: at("C1"), Text: "=C1", V: circle(), Ever: true, Version: 1},
		{Cell: at("A2"), Text: "=B1+A1", V: circle(), Ever: true, Version: 1},
		{Cell: at("B2"), Text: "5", V: n(5), Ever: true, Version: 1},
		{Cell: at("T!A1"), Text: "=S!B1", V: circle(), Ever: true, Version: 1},
	}
	stateIs(t, x, 1, cells, make([][]api.Area, 3), make([]api.Flight, 3))

	edited(t, x, "A2", "= B2 + 1", "U!B2", "=1", "B2", "") // the first of them cease to be cyclic
	seen(t, x, 1, "T!A1:D1 T!B9")
	ticked(t, x, 0, 3, 3)
	cells = []api.Held{
		{Cell: at("A1"), Text: "2", V: n(2), Ever: true, Version: 2},
		{Cell: at("B1"), Text: "=SUM(A1:A9)", Stale: true, V: circle(), Ever: true, Version: 1},
		{Cell: at("C1"), Text: "=C1", V: circle(), Ever: true, Version: 2},
		{Cell: at("A2"), Text: "= B2 + 1", Stale: true, V: circle(), Ever: true, Version: 1},
		{Cell: at("T!A1"), Text: "=S!B1", Stale: true, V: circle(), Ever: true, Version: 1},
		{Cell: at("U!B2"), Text: "=1", Stale: true},
	}
	views := [][]api.Area{nil, areas("T!A1:D1 T!B9"), nil}
	frames := []api.Flight{{On: true, Cell: at("A2"), Frame: api.Frame{At: 3, Steps: 3, Stack: []api.Value{n(1)}}}, {}, {}}
	stateIs(t, x, 2, cells, views, frames)

	ticked(t, x, 0, 1+4, 1+4) // A2 is done, B1 under way
	cells[3].Stale, cells[3].V, cells[3].Version = false, n(1), 2
	frames[0] = api.Flight{On: true, Cell: at("B1"), Frame: api.Frame{At: 1, Steps: 4, Accs: []api.Acc{{Fn: api.FnSum, Num: api.Num{N: 3, D: 1}}}, Scans: 3}}
	stateIs(t, x, 2, cells, views, frames)

	ticked(t, x, 2, 1, 1)
	frames[2] = api.Flight{On: true, Cell: at("U!B2"), Frame: api.Frame{At: 1, Steps: 1, Stack: []api.Value{n(1)}}}
	stateIs(t, x, 2, cells, views, frames)

	edited(t, x, "A9", "=U!B2") // B1's frame is aborted
	for i := range cells {
		if !cells[i].Stale {
			cells[i].Version = 3
		}
	}
	cells = slices.Insert(cells, 4, api.Held{Cell: at("A9"), Text: "=U!B2", Stale: true})
	frames[0] = api.Flight{}
	stateIs(t, x, 3, cells, views, frames)
}

func TestStateTurnsNothing(t *testing.T) { // Promise 17.7: reads, windows, states, whatever they are asked of, turn nothing.
	x := midway(t)
	was := tellsAll(x)
	for range 3 {
		if tellsAll(x) != was {
			t.Fatal("what is asked turns what is told")
		}
		x.Read(api.Cell{Sheet: 9})
		x.Window(-1)
	}
}
