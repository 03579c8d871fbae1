package move

import (
	"math"
	"slices"
	"strings"
	"testing"

	"whittle/api"
)

// cells are cells at all edges.
func cells() []api.Cell {
	var list []api.Cell
	for _, sheet := range []int{0, 3, api.MaxSheets - 1} {
		for _, row := range edges(api.MaxRows) {
			for _, col := range edges(api.MaxCols) {
				list = append(list, api.Cell{Sheet: sheet, Row: row, Col: col})
			}
		}
	}
	return list
}

// wrongCells are none, each by one number alone.
func wrongCells() []api.Cell {
	var list []api.Cell
	for _, by := range []int{math.MinInt, -1, math.MaxInt} {
		list = append(list, api.Cell{Sheet: by}, api.Cell{Row: by}, api.Cell{Col: by})
	}
	return append(list, api.Cell{Sheet: api.MaxSheets}, api.Cell{Row: api.MaxRows}, api.Cell{Col: api.MaxCols})
}

func TestFillIsCopy(t *testing.T) { // Promise 6.3: from each cell to each, sheets are not looked at.
	to := cells()
	for _, text := range []string{"=A1", "=SUM(B$2:$IU65535)+T!IV65536", "=$A$1", "12", "", "'=A1", "x\n"} {
		for _, from := range cells() {
			var want []string
			for _, c := range to {
				s, code := Copy(text, c.Row-from.Row, c.Col-from.Col)
				if code != api.OK {
					t.Fatalf("Copy of %q is %d", text, code)
				}
				want = append(want, s)
			}
			filled(t, text, from, to, want...)
		}
	}
}

func TestFillByHand(t *testing.T) { // Promise 6.3: in their order, as often as they stand there.
	b2 := api.Cell{Row: 1, Col: 1}
	filled(t, "=A1+$A1+A$1+$A$1", b2, []api.Cell{{Row: 2, Col: 2}, b2, {}, b2, {Sheet: 7, Row: 9, Col: 26}}, "=B2+$A2+B$1+$A$1", "=A1+$A1+A$1+$A$1", "=#REF!+#REF!+#REF!+$A$1", "=A1+$A1+A$1+$A$1", "=Z9+$A9+Z$1+$A$1")
	filled(t, "= T!A1 : B2 ", api.Cell{Sheet: 1}, []api.Cell{{Row: 1}, {Sheet: 1}}, "=T!A2:B3", "=T!A1:B2")
	filled(t, "12", b2, []api.Cell{{}, b2}, "12", "12")
	filled(t, "", b2, []api.Cell{{}}, "")
}

func TestFillOfNone(t *testing.T) { // Promise 6.3: no text is told, so none can fail.
	for _, text := range []string{"=A1", "=1+", "", "x", "=" + strings.Repeat("-", 300) + "1"} {
		filled(t, text, api.Cell{}, nil)
		filled(t, text, api.Cell{}, []api.Cell{})
		for _, from := range wrongCells() {
			unfilled(t, text, from, nil, api.ErrCell)
		}
	}
}

func TestFillOfWrongCells(t *testing.T) { // Promise 6.3, R2: a cell that there is not goes ahead of all else.
	for _, wrong := range wrongCells() {
		for _, text := range []string{"=A1", "=$A$1", "=1+", "=_", "", "12", padded(t, api.MaxContent, "A9")} {
			unfilled(t, text, wrong, []api.Cell{{}}, api.ErrCell)
			unfilled(t, text, wrong, []api.Cell{wrong}, api.ErrCell)
			for at := range 3 {
				to := make([]api.Cell, 3)
				to[at] = wrong
				unfilled(t, text, api.Cell{}, to, api.ErrCell)
			}
		}
	}
}

func TestFillRefused(t *testing.T) { // Promise 6.3: the first error of Copy, and no texts.
	to := []api.Cell{{}, {Row: 1}, {Col: 1}}
	unfilled(t, "=1+", api.Cell{}, to, api.ErrForm)
	unfilled(t, "=_", api.Cell{}, to, api.ErrByte)
	unfilled(t, `="`, api.Cell{}, to, api.ErrQuote)
	unfilled(t, "="+strings.Repeat("-", 40)+"1", api.Cell{}, to, api.ErrDeep)
	most := padded(t, api.MaxContent, "A9")
	filled(t, most, api.Cell{Row: 8}, []api.Cell{{Row: 8}, {}}, most, strings.TrimSuffix(most, "A9")+"A1")
	for at := range 3 {
		long := []api.Cell{{Row: 8}, {Row: 8}, {Row: 8}}
		long[at].Row++
		unfilled(t, most, api.Cell{Row: 8}, long, api.ErrLong)
	}
}

func TestFillOfMany(t *testing.T) { // Promise 6.3: as many as one likes.
	var to []api.Cell
	var want []string
	for r := range 5000 {
		to = append(to, api.Cell{Sheet: r % api.MaxSheets, Row: r, Col: r % api.MaxCols})
		want = append(want, "="+word(api.Ref{Row: r, Col: r % api.MaxCols}))
	}
	filled(t, "=A1", api.Cell{}, to, want...)
}

func TestFillLeavesItsCells(t *testing.T) { // R3.
	full := []api.Cell{{Row: 1}, {Col: 1}, {Sheet: 9, Row: 9, Col: 9}}
	was := slices.Clone(full)
	got, _ := Fill("=A1", api.Cell{}, full[:2]...)
	again, _ := Fill("=A1", api.Cell{}, full[:2]...)
	spare := got[:cap(got)]
	for i := range spare {
		spare[i] = "spoilt"
	}
	if !slices.Equal(full, was) || !slices.Equal(again, []string{"=A2", "=B1"}) {
		t.Fatal("Fill has changed its cells, or two answers share memory:", full, again)
	}
}
