package graph

import (
	"fmt"
	"math/rand"
	"slices"
	"testing"

	"whittle/api"
	"whittle/place"
)

// randomCell is one of the universe.
func randomCell(r *rand.Rand) api.Cell {
	l := universe()
	return l[r.Intn(len(l))]
}

// named is a cell as a formula of any sheet names it.
func named(c api.Cell) string { return []string{"S!", "T!", "U!"}[c.Sheet] + place.Name(c) }

// randomPart is a formula over cells of the universe.
func randomPart(r *rand.Rand) string {
	a := named(randomCell(r))
	areas := []string{"A1:B2", "T!A1:B2", "S!A1:C3", "S!B1:B99", "T!A1:IV65536", "U!A1:Z9", "A2:C2", "B2:IV65536", "U!B2:B2", "S!A3:B3"}
	area := areas[r.Intn(len(areas))]
	switch r.Intn(12) {
	case 0:
		return "SUM(" + area + ")"
	case 1:
		return "IF(" + a + ",1," + named(randomCell(r)) + ")"
	case 2:
		return "COUNTIF(" + area + "," + a + ")"
	case 3:
		return "ROWS(" + area + ")"
	case 4:
		return "INDEX(" + area + "," + a + ")"
	case 5:
		return "7"
	}
	return a
}

// randomText is contents of any kind, formulas most of all.
func randomText(r *rand.Rand) string {
	switch r.Intn(8) {
	case 0:
		return ""
	case 1:
		return []string{"5", "x", "'=A1", "TRUE"}[r.Intn(4)]
	}
	s := "=" + randomPart(r)
	for r.Intn(4) == 0 {
		s += "+" + randomPart(r)
	}
	return s
}

// randomEdit is changes of cells of the universe; if they may be odd, some are refused.
func randomEdit(r *rand.Rand, odd bool) []api.Change {
	var l []api.Change
	for range 1 + r.Intn(4) {
		x := api.Change{Cell: randomCell(r), Text: randomText(r)}
		if odd && r.Intn(15) == 0 {
			x.Text = "=1+"
		}
		if odd && r.Intn(25) == 0 {
			x.Cell.Sheet = 3
		}
		if twice := func(y api.Change) bool { return y.Cell == x.Cell }; odd || !slices.ContainsFunc(l, twice) {
			l = append(l, x)
		}
	}
	return l
}

func TestLawEdits(t *testing.T) { // Promises 12.1 to 12.5: whatever edits come, the graph tells what the model does, and what a book of the same edits does.
	r := rand.New(rand.NewSource(122))
	tally := map[api.Errno]int{}
	circles, deep := 0, 0
	for range 25 {
		g, b := opened(t), bookOf(t)
		for range 30 {
			l := randomEdit(r, true)
			got, want := g.Edit(l...), b.Edit(l...)
			if got != want || tellsBook(g) != tellsBook(b) {
				t.Fatalf("Edit(%q): %v, want %v", fmt.Sprint(l), got, want)
			}
			tally[got.Code]++
			agrees(t, g)
			for _, c := range universe() {
				circles += len(g.Circle(c)) / 3
				deep += g.Level(c) / 3
			}
		}
	}
	if tally[api.OK] < 200 || tally[api.ErrForm] < 20 || tally[api.ErrCell] < 20 || circles < 100 || deep < 100 {
		t.Error(tally, circles, deep)
	}
}

func TestLawRestore(t *testing.T) { // Promise 12.1: Restore of a state is a graph that tells the same, and goes on as the first one.
	r := rand.New(rand.NewSource(123))
	for range 25 {
		g := opened(t)
		for range r.Intn(9) {
			g.Edit(randomEdit(r, true)...)
		}
		again := restored(t, g)
		for range 5 {
			if tellsAll(again) != tellsAll(g) {
				t.Fatalf("a restored graph tells %s, want %s", tellsAll(again), tellsAll(g))
			}
			agrees(t, again)
			l := randomEdit(r, true)
			if one, two := g.Edit(l...), again.Edit(l...); one != two {
				t.Fatalf("Edit(%q): %v, restored %v", fmt.Sprint(l), one, two)
			}
		}
	}
}

func TestLawParted(t *testing.T) { // Promise 12.1: the same contents, laid by other edits, tell the same.
	r := rand.New(rand.NewSource(124))
	for range 40 {
		var last []api.Change
		for _, c := range universe() {
			last = append(last, api.Change{Cell: c, Text: randomText(r)})
		}
		want := opened(t)
		taken(t, want, last...)
		for range 3 {
			g := opened(t)
			for range r.Intn(5) {
				taken(t, g, randomEdit(r, false)...)
			}
			rest := slices.Clone(last)
			r.Shuffle(len(rest), func(i, k int) { rest[i], rest[k] = rest[k], rest[i] })
			for len(rest) > 0 {
				n := 1 + r.Intn(len(rest))
				taken(t, g, rest[:n]...)
				rest = rest[n:]
			}
			if one, two := tells(g, universe()), tells(want, universe()); one != two {
				t.Fatalf("%s and %s of the same contents", one, two)
			}
		}
	}
}

func TestLawsOfLevels(t *testing.T) { // Promises 12.6, 12.7.
	r := rand.New(rand.NewSource(125))
	for range 300 {
		g := opened(t)
		taken(t, g, randomEdit(r, false)...)
		taken(t, g, randomEdit(r, false)...)
		for _, c := range universe() {
			if g.Kind(c) == api.Formula {
				lawsOf(t, g, c)
			}
		}
	}
}

// lawsOf holds what follows of a formula, by what it uses.
func lawsOf(t *testing.T, g *Graph, c api.Cell) {
	t.Helper()
	most, anyCyclic := 0, false
	for _, x := range universe() {
		if !slices.Contains(g.Users(x), c) {
			continue
		}
		most, anyCyclic = max(most, g.Level(x)), anyCyclic || g.Cyclic(x)
	}
	if anyCyclic != g.Cyclic(c) {
		t.Fatalf("%s: cyclic %v, uses a cyclic one %v", g.Text(c), g.Cyclic(c), anyCyclic)
	}
	if !g.Cyclic(c) && g.Level(c) != most+1 {
		t.Fatalf("%s: level %d, uses one of %d", g.Text(c), g.Level(c), most)
	}
	for _, x := range universe() {
		reaches := slices.Contains(g.Users(x), c)
		for _, user := range g.Users(x) {
			reaches = reaches || slices.Contains(g.Reach(user), c)
		}
		if reaches != slices.Contains(g.Reach(x), c) || reaches != (len(g.Path(x, c)) > 1) {
			t.Fatalf("%s reaches %v: %v", g.Text(c), x, reaches)
		}
		if way := g.Path(x, c); reaches {
			lawOfPath(t, g, way, x, c)
		}
	}
}

// lawOfPath holds that a path is one, and that no cell but its ends stands in it twice.
func lawOfPath(t *testing.T, g *Graph, way []api.Cell, from, to api.Cell) {
	t.Helper()
	if way[0] != from || way[len(way)-1] != to {
		t.Fatalf("Path(%v, %v): %v", from, to, way)
	}
	for i, c := range way[1:] {
		if !slices.Contains(g.Users(way[i]), c) || slices.Contains(way[1:i+1], c) || i < len(way)-2 && c == from {
			t.Fatalf("Path(%v, %v): %v", from, to, way)
		}
	}
}

func TestLawApart(t *testing.T) { // R4: two graphs have nothing in common.
	r := rand.New(rand.NewSource(126))
	one, two := opened(t), opened(t)
	for range 60 {
		still := tellsAll(two)
		one.Edit(randomEdit(r, true)...)
		if tellsAll(two) != still {
			t.Fatal("an edit of one graph is told by another")
		}
		one, two = two, one
	}
}

func TestReadsTurnNothing(t *testing.T) { // R4: what was asked ahead is nothing to what is told.
	r := rand.New(rand.NewSource(127))
	for range 20 {
		asked, silent := opened(t), opened(t)
		for range 6 {
			l := randomEdit(r, true)
			asked.Edit(l...)
			silent.Edit(l...)
			if one, two := tellsAll(asked), tellsAll(asked); one != two {
				t.Fatalf("%s, asked again %s", one, two)
			}
		}
		if tellsAll(asked) != tellsAll(silent) {
			t.Fatal("what was asked turns what is told")
		}
	}
}

func TestInnerEdit(t *testing.T) { // R7, R1: behind the book's own Edit nothing is promised but that calls end and don't panic.
	r := rand.New(rand.NewSource(128))
	for range 30 {
		g := opened(t)
		for range 6 {
			g.Edit(randomEdit(r, true)...)
			g.Book.Edit(randomEdit(r, true)...)
			tellsAll(g)
		}
	}
}
