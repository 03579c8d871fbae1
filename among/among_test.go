package among

import (
	"math/rand"
	"slices"
	"testing"

	"whittle/api"
	"whittle/order"
	"whittle/place"
)

// some are cells of a few sheets, rows and columns, in their order.
func some(r *rand.Rand, sheets, rows, cols int) Cells {
	var cs Cells
	for range r.Intn(60) {
		cs = append(cs, api.Cell{Sheet: r.Intn(sheets), Row: r.Intn(rows), Col: r.Intn(cols)})
	}
	slices.SortFunc(cs, order.Cells)
	return slices.Compact(cs)
}

// listed are the cells of an area, one by one.
func listed(a api.Area) []api.Cell {
	var l []api.Cell
	for k := range place.Size(a) {
		c, _ := place.At(a, k)
		l = append(l, c)
	}
	return l
}

// area is any one of a few rows and columns.
func area(r *rand.Rand, rows, cols int) api.Area {
	a := api.Area{Sheet: r.Intn(3), Top: r.Intn(rows), Left: r.Intn(cols)}
	a.Bottom, a.Right = a.Top+r.Intn(rows), a.Left+r.Intn(cols)
	return a
}

func TestIn(t *testing.T) { // Of many cells just those of the area, in their order, with their numbers in it; and no more than are asked for.
	r := rand.New(rand.NewSource(139))
	for range 3000 {
		rows, cols, sheets := 1+r.Intn(12), 1+r.Intn(12), 1+r.Intn(3)
		cs, a, most := some(r, sheets, rows, cols), area(r, rows, cols), r.Intn(20)
		var got, want []api.Cell
		for k, c := range cs.In(a) {
			if listed(a)[k] != c {
				t.Fatalf("%v has the number %d in %v", c, k, a)
			}
			if got = append(got, c); len(got) == most {
				break
			}
		}
		for _, c := range listed(a) {
			if slices.Contains(cs, c) && (most == 0 || len(want) < most) {
				want = append(want, c)
			}
		}
		if !slices.Equal(got, want) {
			t.Fatalf("of %v %v are in %v, want %v", cs, got, a, want)
		}
	}
}

func TestFirst(t *testing.T) { // The first one of all areas, whichever area has it.
	r := rand.New(rand.NewSource(140))
	none, late := 0, 0
	for range 3000 {
		cs := some(r, 3, 12, 12)
		var areas []api.Area
		for range r.Intn(4) {
			areas = append(areas, area(r, 6, 6))
		}
		got, is := cs.First(areas...)
		at := slices.IndexFunc(cs, func(c api.Cell) bool {
			return slices.ContainsFunc(areas, func(a api.Area) bool { return place.Has(a, c) })
		})
		switch {
		case at < 0:
			none++
			if is || got != (api.Cell{}) {
				t.Fatalf("of %v %v is in %v, want none", cs, got, areas)
			}
		case !is || got != cs[at]:
			t.Fatalf("of %v %v, %v is the first in %v, want %v", cs, got, is, areas, cs[at])
		case !place.Has(areas[0], got):
			late++
		}
	}
	if none < 100 || late < 100 {
		t.Error("just", none, "without any,", late, "that lie beside the first area")
	}
}

func TestCount(t *testing.T) { // Each once, be it in many of the areas.
	r := rand.New(rand.NewSource(142))
	twice := 0
	for range 3000 {
		cs := some(r, 3, 12, 12)
		var areas []api.Area
		for range r.Intn(5) {
			areas = append(areas, area(r, 6, 6))
		}
		want := 0
		for _, c := range cs {
			in := 0
			for _, a := range areas {
				if place.Has(a, c) {
					in++
				}
			}
			want += min(in, 1)
			twice += max(in-1, 0)
		}
		if got := cs.Count(areas...); got != want {
			t.Fatalf("of %v %d are in %v, want %d", cs, got, areas, want)
		}
	}
	if twice < 200 {
		t.Error("just", twice, "in more than one area")
	}
}

func TestHas(t *testing.T) { // Just those that are listed.
	r := rand.New(rand.NewSource(141))
	for range 300 {
		cs := some(r, 2, 6, 6)
		for _, c := range listed(api.Area{Sheet: r.Intn(3), Bottom: 6, Right: 6}) {
			if cs.Has(c) != slices.Contains(cs, c) {
				t.Fatalf("%v has %v: %v", cs, c, cs.Has(c))
			}
		}
	}
	if (Cells)(nil).Has(api.Cell{}) {
		t.Error("none has A1")
	}
}

func TestAll(t *testing.T) { // Those of each sheet, one behind the other; none of no sheet.
	of := func(sheet int) []api.Cell {
		return []api.Cell{{Sheet: sheet, Row: 1}, {Sheet: sheet, Row: 2}}[:sheet%3]
	}
	want := Cells{{Sheet: 1, Row: 1}, {Sheet: 2, Row: 1}, {Sheet: 2, Row: 2}, {Sheet: 4, Row: 1}}
	if got := All(5, of); !slices.Equal(got, want) {
		t.Error(got, want)
	}
	if got := All(0, of); len(got) != 0 {
		t.Error(got)
	}
}

func TestHuge(t *testing.T) { // What lies beside is leapt over: 4096 cells, areas of whole sheets and of single columns.
	var cs Cells
	for row := range 4096 {
		cs = append(cs, api.Cell{Row: row * 16, Col: row % 256})
	}
	n := 0
	for range 200 {
		for col := range 256 {
			for range cs.In(api.Area{Bottom: api.MaxRows - 1, Left: col, Right: col}) {
				n++
				break
			}
		}
		for range cs.In(api.Area{Bottom: api.MaxRows - 1, Right: api.MaxCols - 1}) {
			n++
		}
	}
	if n != 200*(256+4096) {
		t.Error(n)
	}
}

func TestMemory(t *testing.T) { // R3: neither what is handed in nor what was told is turned by what follows.
	kept := []api.Cell{{Row: 1}, {Row: 2}, {Row: 3}}
	all := All(1, func(int) []api.Cell { return kept[:2] })
	all = append(all, api.Cell{Row: 9})
	all[0] = api.Cell{Row: 8}
	if !slices.Equal(kept, []api.Cell{{Row: 1}, {Row: 2}, {Row: 3}}) {
		t.Error(kept)
	}
}
