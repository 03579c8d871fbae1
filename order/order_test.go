package order

import (
	"slices"
	"testing"

	"whittle/api"
)

// rising are cells in their order: by sheet, then row, then column; those that are no cells stand by their numbers, too.
func rising() []api.Cell {
	const least, most = -1 << 63, 1<<63 - 1
	return []api.Cell{{Sheet: least}, {Sheet: -1, Row: 9}, {Row: least}, {Row: -1, Col: 5}, {Col: least}, {Col: -1}, {}, {Col: 1}, {Col: 255}, {Col: most}, {Row: 1, Col: -9}, {Row: 1}, {Row: 2, Col: 1}, {Row: 10}, {Row: most}, {Sheet: 1, Row: -3}, {Sheet: 1}, {Sheet: 1, Col: 2}, {Sheet: 2}, {Sheet: most, Row: most, Col: most}}
}

func TestCells(t *testing.T) {
	l := rising()
	for i, a := range l {
		for k, b := range l {
			if got := Cells(a, b); got < 0 != (i < k) || got > 0 != (i > k) {
				t.Errorf("Cells(%v, %v): %d", a, b, got)
			}
		}
	}
}

func TestCellsSorts(t *testing.T) {
	l := rising()
	slices.Reverse(l)
	slices.SortFunc(l, Cells)
	if !slices.Equal(l, rising()) {
		t.Error(l)
	}
}
