package book

import (
	"testing"

	"whittle/api"
)

var full = api.Refusal{Code: api.ErrFull}

func TestFull(t *testing.T) { // Promise 11.2: ErrFull beyond MaxCells cells, Change and At 0.
	b := crowded(t, api.MaxCells)
	if b.Len() != api.MaxCells || len(b.Cells(0)) != api.MaxCells {
		t.Fatal(b.Len())
	}
	refused(t, b, full, put("B1", "1"))
	refused(t, b, full, put("T!A1", "=A1"))
	refused(t, b, full, puts("A1", "2", "A2", "3", "B1", "1")...)
	refused(t, b, full, puts("B1", "1", "A1", "2", "B2", "")...)
	refused(t, b, full, puts("A1", "", "B1", "1", "B2", "1")...)
	refused(t, b, full, puts("B1", "1", "B2", "1", "A1", "")...)
	refused(t, b, full, column(1, 0, api.MaxBatch, "1")...)
}

func TestFullTakes(t *testing.T) { // Promise 11.2: other contents, and as many cells as are emptied, in whatever order.
	b := crowded(t, api.MaxCells)
	taken(t, b, puts("A1", "2", "A4096", "=A1")...)
	taken(t, b, puts("B1", "1", "A1", "")...)
	taken(t, b, puts("A1", "1", "B2", "", "B1", "")...)
	taken(t, b, puts("A1", "", "A2", "", "T!A1", "x", "T!A2", "y")...)
	if b.Len() != api.MaxCells || len(b.Cells(1)) != 2 {
		t.Error(b.Len())
	}
	taken(t, b, puts("A4000", "")...)
	taken(t, b, puts("A4000", "")...)
	refused(t, b, full, puts("C1", "1", "C2", "2")...)
	taken(t, b, puts("C1", "1", "C2", "")...)
	refused(t, b, full, puts("C2", "1")...)
	half := append(column(0, 1000, 128, ""), column(1, 1000, 128, "new")...)
	taken(t, b, half...)
	if b.Len() != api.MaxCells {
		t.Error(b.Len())
	}
}

func TestFullUpTo(t *testing.T) { // Promise 11.2: just MaxCells are taken by one edit, not one more.
	b := crowded(t, api.MaxCells-200)
	refused(t, b, full, column(1, 0, 201, "1")...)
	refused(t, b, full, column(1, 0, 256, "1")...)
	taken(t, b, column(1, 0, 200, "1")...)
	if b.Len() != api.MaxCells {
		t.Error(b.Len())
	}
}

func TestFullComesLast(t *testing.T) { // Promise 11.2: each error of a change comes ahead of ErrFull.
	b := crowded(t, api.MaxCells)
	for _, w := range append(wrongTexts(), wrongCells()...)[:40] {
		if r := b.Edit(put("T!A1", "1"), w.change); r != w.refusal(1) {
			t.Errorf("%v, want %v", r, w.refusal(1))
		}
	}
	refused(t, b, api.Refusal{Code: api.ErrTwice, Change: 1}, puts("T!A1", "1", "T!A1", "2")...)
	refused(t, b, api.Refusal{Code: api.ErrMany}, column(1, 0, api.MaxBatch+1, "1")...)
	refused(t, b, api.Refusal{Code: api.ErrNone})
}
