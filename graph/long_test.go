package graph

import (
	"fmt"
	"math/rand"
	"slices"
	"testing"

	"whittle/api"
	"whittle/place"
)

// row is the name of the cell number i of a column as long as a book may be.
func row(i int) string { return place.Name(api.Cell{Row: i}) }

// laid is a graph whose cells number 0 to MaxCells - 1 of S's column A hold these texts, laid in this order.
func laid(t *testing.T, places []int, text func(i int) string) *Graph {
	t.Helper()
	g := opened(t)
	for some := range slices.Chunk(places, api.MaxBatch) {
		var l []api.Change
		for _, i := range some {
			l = append(l, put(row(i), text(i)))
		}
		taken(t, g, l...)
	}
	return g
}

// orders are ways to lay a column: from its beginning, from its end, in whatever order.
func orders(n int) map[string][]int {
	up := make([]int, n)
	for i := range up {
		up[i] = i
	}
	down := slices.Clone(up)
	slices.Reverse(down)
	return map[string][]int{"up": up, "down": down, "mixed": rand.New(rand.NewSource(121)).Perm(n)}
}

// formsOfAhead are formulas that use the cell ahead, by itself and in an area, of a column whose cells beside are empty.
func formsOfAhead() map[string]func(i int) string {
	return map[string]func(i int) string{
		"cell":  func(i int) string { return "=" + row(i-1) },
		"small": func(i int) string { return fmt.Sprintf("=SUM(%s:C%d)", row(i-1), i) },
		"great": func(i int) string { return fmt.Sprintf("=SUM(%s:Z%d)", row(i-1), i) },
		"both":  func(i int) string { return fmt.Sprintf("=%s+SUM(%s:Z%d)", row(max(i-9, 0)), row(i-1), i) },
	}
}

func TestLongChain(t *testing.T) { // Promises 12.2 to 12.5: as many cells as a book may hold, each using the one ahead, laid in several orders.
	for form, text := range formsOfAhead() {
		for name, places := range orders(api.MaxCells) {
			g := laid(t, places, func(i int) string {
				if i == 0 {
					return "=B1"
				}
				return text(i)
			})
			for i := range api.MaxCells {
				if c := (api.Cell{Row: i}); g.Level(c) != i+1 || g.Cyclic(c) {
					t.Fatalf("%s, %s: Level(%s): %d", form, name, row(i), g.Level(c))
				}
			}
			longReach(t, g)
			if way := g.Path(at("A1"), at("A4096")); form != "both" && len(way) != api.MaxCells {
				t.Errorf("%s, %s: Path of %d cells", form, name, len(way))
			}
			if l := g.Circle(at("A4096")); len(l) != 0 {
				t.Errorf("%s, %s: Circle of %d cells", form, name, len(l))
			}
		}
	}
}

// longReach holds who reaches a cell of a chain: all behind it.
func longReach(t *testing.T, g *Graph) {
	t.Helper()
	for _, i := range []int{0, 1, 2000, api.MaxCells - 2, api.MaxCells - 1} {
		l := g.Reach(api.Cell{Row: i}, api.Cell{Row: min(i+1, api.MaxCells-1)})
		if len(l) != api.MaxCells-1-i || len(l) > 0 && (l[0] != api.Cell{Row: i + 1} || l[len(l)-1] != at("A4096")) {
			t.Errorf("Reach(%s): %d cells", row(i), len(l))
		}
	}
}

func TestLongChainTurns(t *testing.T) { // Promise 12.3: levels of a long chain behind edits at its beginning, its midst and its end.
	g := laid(t, orders(api.MaxCells)["mixed"], func(i int) string { return "=" + row(max(i-1, 1)) }) // A2 uses itself
	cyclics(t, g, "A1 A2 A3 A2000 A4096")
	circleIs(t, g, "A4096", "A2 A2")
	edited(t, g, "A2", "=A1", "A1", "5")
	levels(t, g, "A1 0 A2 1 A3 2 A2000 1999 A4096 4095")
	edited(t, g, "A2000", "")
	levels(t, g, "A1999 1998 A2000 0 A2001 1 A4096 2096")
	pathIs(t, g, "A1", "A2001", "")
	edited(t, g, "A2000", "=SUM(A1:A1999)")
	levels(t, g, "A1999 1998 A2000 1999 A2001 2000 A4096 4095")
	pathIs(t, g, "A1", "A2001", "A1 A2000 A2001")
	edited(t, g, "A1", "=A4096")
	cyclics(t, g, "A1 A2 A2000 A4096")
	if n := len(g.Circle(at("A2"))); n != 2100 { // A2, A2000 to A4096, A1, A2
		t.Error("Circle(A2):", n)
	}
	if n := len(g.Circle(at("A1"))); n != 2099 { // A1, A2000 to A4096, A1
		t.Error("Circle(A1):", n)
	}
	edited(t, g, "A4096", "")
	levels(t, g, "A1 1 A2 2 A2000 2000 A4095 4095")
}

func TestLongCircle(t *testing.T) { // Promises 12.3, 12.4, 12.5: one circle of all cells that a book may hold.
	for name, places := range orders(api.MaxCells) {
		g := laid(t, places, func(i int) string { return "=" + row((i+api.MaxCells-1)%api.MaxCells) })
		for _, i := range []int{0, 1, 1000, api.MaxCells - 1} {
			c := api.Cell{Row: i}
			way := g.Circle(c)
			if len(way) != api.MaxCells+1 || way[0] != c || way[api.MaxCells] != c || !g.Cyclic(c) || g.Level(c) != 0 {
				t.Errorf("%s: Circle(%s): %d cells", name, row(i), len(way))
			}
			for k := range api.MaxCells {
				if way[k].Row != (i+k)%api.MaxCells {
					t.Fatalf("%s: Circle(%s): %v at %d", name, row(i), way[k], k)
				}
			}
		}
		if l := g.Reach(at("A7")); len(l) != api.MaxCells {
			t.Errorf("%s: Reach: %d cells", name, len(l))
		}
	}
}

func TestLongWayToCircle(t *testing.T) { // Promise 12.5: a long chain of cells ahead of the circle, in their order, which lie on none.
	g := laid(t, orders(api.MaxCells)["down"], func(i int) string { return "=" + row(min(i+1, api.MaxCells-1)) })
	cyclics(t, g, "A1 A2 A2000 A4095 A4096")
	circleIs(t, g, "A1", "A4096 A4096")
	circleIs(t, g, "A4096", "A4096 A4096")
	edited(t, g, "A2000", "=A2001+A1990")
	if way := g.Circle(at("A1")); len(way) != 12 || way[0] != at("A1990") || way[1] != at("A2000") || way[11] != at("A1990") {
		t.Error("Circle(A1):", names(way))
	}
	edited(t, g, "A4096", "1")
	cyclics(t, g, "A1 A1990 A2000")
	levels(t, g, "A2001 2095 A4095 1 A4096 0")
}

func TestSums(t *testing.T) { // Promise 12.3: running sums, each over all cells ahead: nearly as many uses as there can be.
	for name, places := range orders(1200) {
		g := laid(t, places, func(i int) string { return fmt.Sprintf("=SUM(A1:%s)+Z9", row(max(i-1, 0))) })
		cyclics(t, g, "A1 A2 A1200")
		edited(t, g, "A1", "1")
		for i := range 1200 {
			if n := g.Level(api.Cell{Row: i}); n != i {
				t.Fatalf("%s: Level(%s): %d", name, row(i), n)
			}
		}
		if l := g.Users(at("A1000")); len(l) != 200 || l[0] != at("A1001") || l[199] != at("A1200") {
			t.Errorf("%s: Users(A1000): %d", name, len(l))
		}
		pathIs(t, g, "A5", "A1200", "A5 A1200")
	}
}

func TestAllUseAll(t *testing.T) { // Promises 12.2, 12.3: each formula uses all cells of its sheet.
	g := laid(t, orders(800)["mixed"], func(int) string { return "=SUM(A1:IV65536)" })
	for _, name := range []string{"A1", "A800", "Z9", "IV65536"} {
		if l := g.Users(at(name)); len(l) != 800 || l[0] != at("A1") || l[799] != at("A800") {
			t.Errorf("Users(%s): %d", name, len(l))
		}
		if l := g.Reach(at(name)); len(l) != 800 {
			t.Errorf("Reach(%s): %d", name, len(l))
		}
	}
	cyclics(t, g, "A1 A400 A800")
	circleIs(t, g, "A800", "A800 A800")
	pathIs(t, g, "Z9", "A3", "Z9 A3")
}
