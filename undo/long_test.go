package undo

import (
	"maps"
	"strings"
	"testing"

	"whittle/api"
	"whittle/place"
)

// wide is a change of as many cells as an edit may name, in the row i and on.
func wide(i int, text func(k int) string) []api.Change {
	var l []api.Change
	for k := range api.MaxBatch {
		l = append(l, api.Change{Cell: api.Cell{Row: i, Col: k}, Text: text(k)})
	}
	return l
}

func TestFullBook(t *testing.T) { // Promises 19.3, 19.5: as many edits as may be kept, of as many cells as they may name, with contents as long as may be, in a full book.
	x := opened(t)
	rows := api.MaxCells / api.MaxBatch
	for i := range api.MaxUndo {
		taken(t, x, wide(i%rows, func(k int) string {
			return strings.Repeat(string(rune('a'+i%26)), api.MaxContent-k%3)
		})...)
	}
	if x.Len() != api.MaxCells {
		t.Fatal(x.Len())
	}
	began := contents(x)
	for range 2 {
		for range api.MaxUndo {
			undone(t, x)
		}
		stuck(t, x, x.Undo)
		if x.Len() != 0 {
			t.Fatal(x.Len())
		}
		for range api.MaxUndo {
			redone(t, x)
		}
		stuck(t, x, x.Redo)
		if !maps.Equal(contents(x), began) {
			t.Fatal("the contents are others")
		}
	}
}

func TestLongChain(t *testing.T) { // Promise 19.4: a full book of formulas that are all turned by one cell, there and back.
	x := opened(t)
	for i := range api.MaxCells/api.MaxBatch - 1 {
		taken(t, x, wide(i, func(k int) string {
			c := api.Cell{Row: i, Col: k - 1}
			if k == 0 {
				c = api.Cell{Row: i - 1, Col: api.MaxCols - 1}
			}
			if i == 0 && k == 0 {
				c = api.Cell{Row: 99}
			}
			return "=" + place.Name(c)
		})...)
	}
	const k = api.MaxCells - api.MaxBatch
	edited(t, x, "A100", "5")
	settle(t, x)
	edited(t, x, "A100", "6")
	settle(t, x)
	last := place.Name(api.Cell{Row: api.MaxCells/api.MaxBatch - 2, Col: api.MaxCols - 1})
	reads(t, x, last, fresh(n(6), x.Version()))
	undone(t, x)
	if x.Count() != k || len(x.Last().Stale) != k {
		t.Error(x.Count())
	}
	reads(t, x, last, old(n(6), x.Version()-1))
	settle(t, x)
	reads(t, x, last, fresh(n(5), x.Version()))
	redone(t, x)
	settle(t, x)
	reads(t, x, last, fresh(n(6), x.Version()))
	edited(t, x, "A100", "="+last) // a circle of all
	if !x.Idle() || !x.Cyclic(at("IV9")) {
		t.Error(x.Count())
	}
	undone(t, x)
	if x.Count() != k || x.Cyclic(at("IV9")) {
		t.Error(x.Count())
	}
	reads(t, x, last, old(circle(), x.Version()-1))
	redone(t, x)
	reads(t, x, last, fresh(circle(), x.Version()))
}
