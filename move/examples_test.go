package move

import (
	"math"
	"slices"
	"testing"

	"whittle/api"
)

// copied holds what the contents of a cell are elsewhere.
func copied(t *testing.T, text string, rows, cols int, want string) {
	t.Helper()
	if got, code := Copy(text, rows, cols); got != want || code != api.OK {
		t.Fatalf("Copy(%s, %d, %d) is %s, %d, not %s", short(text), rows, cols, short(got), code, short(want))
	}
}

// uncopied holds that contents are refused, and why.
func uncopied(t *testing.T, text string, rows, cols int, why api.Errno) {
	t.Helper()
	if got, code := Copy(text, rows, cols); got != "" || code != why {
		t.Fatalf("Copy(%s, %d, %d) is %s, %d, not %d", short(text), rows, cols, short(got), code, why)
	}
}

// filled holds what the contents of a cell are in others.
func filled(t *testing.T, text string, from api.Cell, to []api.Cell, want ...string) {
	t.Helper()
	if got, code := Fill(text, from, to...); !slices.Equal(got, want) || code != api.OK {
		t.Fatalf("Fill(%s, %v, %v) is %.200q, %d, not %.200q", short(text), from, to, got, code, want)
	}
}

// unfilled holds that Fill is refused, and why.
func unfilled(t *testing.T, text string, from api.Cell, to []api.Cell, why api.Errno) {
	t.Helper()
	if got, code := Fill(text, from, to...); len(got) != 0 || code != why {
		t.Fatalf("Fill(%s, %v, %v) is %.200q, %d, not %d", short(text), from, to, got, code, why)
	}
}

func TestExamplesCopy(t *testing.T) {
	copied(t, "=A1+B$2*$C3", 1, 1, "=B2+C$2*$C4")
	copied(t, "=SUM(A1:B2)", 0, -1, "=SUM(#REF!)")
	copied(t, "=A1+1", -1, 0, "=#REF!+1")
	copied(t, "=T!B2", 1, 1, "=T!C3")
	copied(t, "12", 5, 5, "12")
	copied(t, "", 1, 1, "")
	uncopied(t, "=1+", 0, 0, api.ErrForm)
	copied(t, "= 1 + 2", 0, 0, "=1+2")
	copied(t, "=A1", math.MaxInt, 0, "=#REF!")
	copied(t, "=$A$1", math.MinInt, 9, "=$A$1")
}

func TestExamplesFill(t *testing.T) {
	a1, b1, a2 := api.Cell{}, api.Cell{Col: 1}, api.Cell{Row: 1}
	filled(t, "=A1", a1, []api.Cell{b1, a2, a1}, "=B1", "=A2", "=A1")
}
