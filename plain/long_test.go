package plain

import (
	"fmt"
	"math/rand"
	"slices"
	"strings"
	"testing"

	"whittle/api"
	"whittle/place"
)

// down is the name of the cell number i of the column A.
func down(i int) string { return place.Name(api.Cell{Row: i}) }

// column is what comes of a column of so many cells with these texts, laid in this order; by codes, too.
func column(t *testing.T, places []int, text func(i int) string) *Values {
	t.Helper()
	g := opened(t)
	var l []api.Change
	for _, i := range places {
		l = append(l, api.Change{Cell: api.Cell{Row: i}, Text: text(i)})
	}
	taken(t, g, l...)
	p := Of(g)
	codesComeTo(t, g, p)
	return p
}

// orders are ways to lay a column: from its beginning, from its end, in whatever order.
func orders(n int) map[string][]int {
	up := make([]int, n)
	for i := range up {
		up[i] = i
	}
	back := slices.Clone(up)
	slices.Reverse(back)
	return map[string][]int{"up": up, "back": back, "mixed": rand.New(rand.NewSource(133)).Perm(n)}
}

func TestLongChains(t *testing.T) { // Promise 13.1, R1: as many cells as a book may hold, each using the one ahead, or the one behind.
	const last = api.MaxCells - 1
	for name, places := range orders(api.MaxCells) {
		for form, cost := range map[string]int{"=%s+1": 4, "=SUM(%[1]s:%[1]s,1)": 6, "=IF(TRUE,%s)+1": 7, "=INDEX(%[1]s:%[1]s,1)+1": 5, "=%[1]s+1+MAX(0,%[1]s)-%[1]s": 13} {
			ahead := column(t, places, func(i int) string {
				if i == 0 {
					return "=1"
				}
				return fmt.Sprintf(form, down(i-1))
			})
			behind := column(t, places, func(i int) string {
				if i == last {
					return "1"
				}
				return fmt.Sprintf(form, down(i+1))
			})
			for i := range api.MaxCells {
				if ahead.Value(api.Cell{Row: i}) != n(i+1) || behind.Value(api.Cell{Row: i}) != n(last-i+1) {
					t.Fatalf("%s, %s: %s is %s and %s", name, form, down(i), shown(ahead.Value(api.Cell{Row: i})), shown(behind.Value(api.Cell{Row: i})))
				}
			}
			if ahead.Total() != 2+last*cost || behind.Total() != last*cost {
				t.Errorf("%s, %s: Total %d and %d, want %d", name, form, ahead.Total(), behind.Total(), last*cost)
			}
		}
	}
}

func TestDeepFormulasInLongChains(t *testing.T) { // R1: each formula as deep as may be, each behind the next one.
	p := column(t, orders(api.MaxCells)["up"], func(i int) string {
		if i == api.MaxCells-1 {
			return "7"
		}
		return "=" + strings.Repeat("SUM(", api.MaxDeep-2) + down(i+1) + ":" + down(i+1) + strings.Repeat(")", api.MaxDeep-2)
	})
	cellIs(t, p, "A1", "7", 3+29*3+1)
	cellIs(t, p, "A4095", "7", 3+29*3+1)
	if p.Total() != 4095*91 {
		t.Error("Total:", p.Total())
	}
}

func TestLongCircle(t *testing.T) { // Promise 13.1: a circle of as many cells as a book may hold.
	p := column(t, orders(api.MaxCells)["mixed"], func(i int) string { return "=" + down((i+1)%api.MaxCells) })
	cellIs(t, p, "A1", "#CIRCLE!", 0)
	cellIs(t, p, "A4096", "#CIRCLE!", 0)
	if p.Total() != 0 {
		t.Error("Total:", p.Total())
	}
	evals(t, p, "IFERROR(SUM(A1:A4096),A1)", "#CIRCLE!", 6)
}

func TestDiamonds(t *testing.T) { // Promise 13.1: each cell is worked out once, though there are 2^4095 ways to the first one.
	for name, places := range orders(api.MaxCells) {
		p := column(t, places, func(i int) string {
			if i == api.MaxCells-1 {
				return "=3"
			}
			return fmt.Sprintf("=%[1]s+%[1]s-MAX(%[1]s,%[1]s:%[1]s)", down(i+1))
		})
		cellIs(t, p, "A1", "3", 10)
		if p.Total() != 2+4095*10 {
			t.Error(name, "Total:", p.Total())
		}
	}
}

func TestRunningSums(t *testing.T) { // Promises 13.1, 13.6: each over all cells behind it: nearly as many uses as there can be.
	const many = 1500
	for name, places := range orders(many) {
		p := column(t, places, func(i int) string {
			if i == many-1 {
				return "1"
			}
			return fmt.Sprintf("=COUNT(%s:%s)", down(i+1), down(many-1))
		})
		sum := 0
		for i := range many - 1 {
			c := api.Cell{Row: i}
			if p.Value(c) != n(many-1-i) || p.Cost(c) != many-1-i+3 {
				t.Fatalf("%s: %s is %s, cost %d", name, down(i), shown(p.Value(c)), p.Cost(c))
			}
			sum += many - 1 - i + 3
		}
		if p.Total() != sum {
			t.Error(name, "Total:", p.Total())
		}
	}
}

func TestThroughAllSheets(t *testing.T) { // Promise 13.1: chains from sheet to sheet, from the last one to the first one and back.
	g := opened(t, "S!A1", "=T!A1+1", "T!A1", "=U!A1*2", "U!A1", "=S!A2+T!A2", "A2", "=T!A2", "T!A2", "=U!A2", "U!A2", "5")
	p := Of(g)
	cellIs(t, p, "U!A1", "10", 4)
	cellIs(t, p, "T!A1", "20", 4)
	cellIs(t, p, "A1", "21", 4)
	cellIs(t, p, "A2", "5", 2)
}
