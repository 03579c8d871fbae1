package pick

import (
	"testing"

	"whittle/api"
	"whittle/place"
	"whittle/value"
)

func n(x int) api.Value { return api.Value{Kind: api.Number, Num: api.Num{N: x, D: 1}} }

func half() api.Value { return api.Value{Kind: api.Number, Num: api.Num{N: 1, D: 2}} }

func bad(code int) api.Value { return api.Value{Kind: api.Fault, Fault: code} }

func TestByOneNumber(t *testing.T) { // Promise 9.2: the cell number k - 1.
	a := api.Area{Sheet: 3, Top: 4, Left: 2, Bottom: 6, Right: 3}
	for k := -3; k < 12; k++ {
		want, some := place.At(a, k-1)
		if c, ok := Cell(a, n(k)); c != want || ok != some {
			t.Errorf("%d picks %v, %t, not %v, %t", k, c, ok, want, some)
		}
	}
}

func TestByRowAndColumn(t *testing.T) { // Promise 9.2: both from 1 on, within the area.
	a := api.Area{Sheet: 3, Top: 4, Left: 2, Bottom: 6, Right: 3}
	for row := -5; row < 9; row++ {
		for col := -5; col < 9; col++ {
			want, some := api.Cell{Sheet: 3, Row: 3 + row, Col: 1 + col}, row >= 1 && row <= 3 && col >= 1 && col <= 2
			if !some {
				want = api.Cell{}
			}
			if c, ok := Cell(a, n(row), n(col)); c != want || ok != some {
				t.Errorf("%d, %d pick %v, %t, not %v, %t", row, col, c, ok, want, some)
			}
		}
	}
}

func TestByWhatTellsNone(t *testing.T) { // Promise 9.2: what is no Number, not whole, or far beyond.
	a := api.Area{Bottom: api.MaxRows - 1, Right: api.MaxCols - 1}
	for _, v := range []api.Value{{}, half(), value.Text("1"), value.Text(""), value.Truth(true), bad(api.FaultNA), n(api.MaxNum), n(-api.MaxNum), n(0)} {
		for _, by := range [][]api.Value{{v}, {v, n(1)}, {n(1), v}, {v, v}} {
			if c, ok := Cell(a, by...); c != (api.Cell{}) || ok {
				t.Errorf("%v picks %v, %t", by, c, ok)
			}
		}
	}
}

func TestNone(t *testing.T) { // Promise 9.3: the first that is a Fault, else #REF!.
	na, div, ref := bad(api.FaultNA), bad(api.FaultDiv), bad(api.FaultRef)
	for _, x := range []struct {
		by   []api.Value
		want api.Value
	}{
		{[]api.Value{n(9)}, ref}, {[]api.Value{value.Text("x")}, ref}, {[]api.Value{{}, half()}, ref},
		{[]api.Value{na}, na}, {[]api.Value{na, div}, na}, {[]api.Value{div, na}, div}, {[]api.Value{n(9), div}, div}, {[]api.Value{div, n(1)}, div},
	} {
		if got := None(x.by...); got != x.want {
			t.Errorf("%v come to %v, not %v", x.by, got, x.want)
		}
	}
}
