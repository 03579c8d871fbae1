package edits

import (
	"slices"
	"testing"

	"whittle/api"
)

func TestCells(t *testing.T) { // Each change's, in their order, whatever they are, one that is named twice too.
	b1, a1, odd := api.Cell{Col: 1}, api.Cell{}, api.Cell{Sheet: -7, Row: 1 << 62}
	got := Cells(api.Change{Cell: b1, Text: "1"}, api.Change{Cell: a1}, api.Change{Cell: odd}, api.Change{Cell: b1, Text: "2"})
	if !slices.Equal(got, []api.Cell{b1, a1, odd, b1}) {
		t.Error(got)
	}
	if len(Cells()) != 0 {
		t.Error(Cells())
	}
}

func TestCellsHandedIn(t *testing.T) { // R3: the changes are not changed; what is told is new memory.
	whole := []api.Change{{Cell: api.Cell{Row: 1}, Text: "x"}, {Cell: api.Cell{Row: 2}}, {Cell: api.Cell{Row: 3}, Text: "room"}}
	was := slices.Clone(whole)
	got := Cells(whole[:2]...)
	got = append(got, api.Cell{Row: 9})
	got[0] = api.Cell{Row: 8}
	if !slices.Equal(whole, was) || len(Cells(whole[:2]...)) != 2 || Cells(whole[:2]...)[0] != (api.Cell{Row: 1}) {
		t.Error(whole, got)
	}
}
