package marks

import (
	"fmt"
	"math/rand"
	"slices"
	"testing"

	"whittle/api"
	"whittle/graph"
	"whittle/place"
)

// randomCell is one of the universe.
func randomCell(r *rand.Rand) api.Cell {
	l := universe()
	return l[r.Intn(len(l))]
}

// named is a cell as a formula of any sheet names it.
func named(c api.Cell) string { return []string{"S!", "T!", "U!"}[c.Sheet] + place.Name(c) }

// randomPart is a formula over cells of the universe.
func randomPart(r *rand.Rand) string {
	a := named(randomCell(r))
	areas := []string{"A1:B2", "T!A1:B2", "S!A1:C1", "S!B1:B99", "T!A2:IV65536", "U!A1:Z9", "A2:C2", "B2:IV65536", "U!B2:B2", "S!A3:B3"}
	area := areas[r.Intn(len(areas))]
	switch r.Intn(14) {
	case 0:
		return "SUM(" + area + ")"
	case 1:
		return "IF(" + a + ",1," + named(randomCell(r)) + ")"
	case 2:
		return "COUNTIF(" + area + "," + a + ")"
	case 3:
		return "ROWS(" + area + ")"
	case 4:
		return "INDEX(" + area + "," + a + ")"
	case 5, 6:
		return "7"
	}
	return a
}

// randomText is contents of any kind, formulas most of all.
func randomText(r *rand.Rand) string {
	switch r.Intn(6) {
	case 0:
		return ""
	case 1:
		return []string{"5", "x", "'=A1", "TRUE"}[r.Intn(4)]
	}
	s := "=" + randomPart(r)
	for r.Intn(4) == 0 {
		s += "+" + randomPart(r)
	}
	return s
}

// randomEdit is changes of cells of the universe; if they may be odd, some are refused.
func randomEdit(r *rand.Rand, odd bool) []api.Change {
	var l []api.Change
	for range 1 + r.Intn(4) {
		x := api.Change{Cell: randomCell(r), Text: randomText(r)}
		if odd && r.Intn(20) == 0 {
			x.Text = "=1+"
		}
		if odd && r.Intn(30) == 0 {
			x.Cell.Sheet = 3
		}
		if twice := func(y api.Change) bool { return y.Cell == x.Cell }; odd && r.Intn(3) == 0 || !slices.ContainsFunc(l, twice) {
			l = append(l, x)
		}
	}
	return l
}

// play does an edit or a Done, of a ready cell most of the time, with marks and with the model, and holds one against the other.
func play(t *testing.T, r *rand.Rand, m *Marks, want *model) (api.Errno, string) {
	t.Helper()
	if r.Intn(2) == 0 {
		l := randomEdit(r, true)
		why := m.Edit(l...)
		if why.Code == api.OK {
			want.edit(l)
		}
		agrees(t, m, want)
		return why.Code, fmt.Sprint("Edit", l)
	}
	c := randomCell(r)
	if ready := all(m, m.ReadyOf); len(ready) > 0 && r.Intn(4) > 0 {
		c = ready[r.Intn(len(ready))]
	}
	if r.Intn(20) == 0 {
		c = strange()[r.Intn(len(strange()))]
	}
	got, asked := m.Done(c), want.done(number(c))
	if got != asked {
		t.Fatalf("Done(%s): %d, want %d", names([]api.Cell{c}), got, asked)
	}
	agrees(t, m, want)
	return got, fmt.Sprint("Done", c)
}

func TestLawScripts(t *testing.T) { // Promises 15.1 to 15.4: whatever edits and Dones come, marks tell what the chapter's words do.
	r := rand.New(rand.NewSource(1501))
	tally := map[api.Errno]int{}
	stale, fresh, circles := 0, 0, 0
	for range 60 {
		m, want := opened(t), newModel()
		g, _ := graph.New("S", "T", "U")
		for range 60 {
			version := m.Version()
			why, _ := play(t, r, m, want)
			tally[why]++
			if m.Version() > version {
				stale, fresh = stale+len(m.Last().Stale), fresh+len(m.Last().Fresh)
			}
			for _, c := range universe() {
				if m.Cyclic(c) {
					circles++
				}
			}
			lawOfFlags(t, m)
		}
		// The contents are a graph's of the same texts.
		g.Edit(contentsOf(m)...)
		for _, c := range universe() {
			if !slices.Equal(m.Users(c), g.Users(c)) || m.Cyclic(c) != g.Cyclic(c) || m.Level(c) != g.Level(c) {
				t.Fatalf("%v: the graph tells another thing", c)
			}
		}
	}
	if tally[api.OK] < 1000 || tally[api.ErrForm] < 50 || tally[api.ErrCell] < 50 || tally[api.ErrTwice] < 20 || tally[api.ErrReady] < 100 || stale < 1000 || fresh < 200 || circles < 1000 {
		t.Error(tally, stale, fresh, circles)
	}
}

// contentsOf is an edit that lays all that marks hold.
func contentsOf(m *Marks) []api.Change {
	var l []api.Change
	for _, c := range all(m, m.Cells) {
		l = append(l, api.Change{Cell: c, Text: m.Text(c)})
	}
	return l
}

// lawOfFlags holds promises 15.3 and 15.6, by what marks themselves tell: Count is the sum, what uses a stale cell is stale, some cell is ready.
func lawOfFlags(t *testing.T, m *Marks) {
	t.Helper()
	if n := len(all(m, m.StaleOf)); n != m.Count() {
		t.Fatalf("Count %d, %d cells are stale", m.Count(), n)
	}
	for _, c := range all(m, m.StaleOf) {
		if m.Kind(c) != api.Formula || m.Cyclic(c) {
			t.Fatalf("%v is stale", c)
		}
		for _, user := range m.Users(c) {
			if !m.Cyclic(user) && !m.Stale(user) || m.Ready(user) {
				t.Fatalf("%v uses the stale %v; stale %v, ready %v", user, c, m.Stale(user), m.Ready(user))
			}
		}
	}
	if m.Count() > 0 && len(all(m, m.ReadyOf)) == 0 {
		t.Fatal("stale cells, and none is ready")
	}
}

func TestLawDones(t *testing.T) { // Promises 15.6, 15.7: whatever ready cell comes next, as many Dones as cells are stale make all fresh.
	r := rand.New(rand.NewSource(1502))
	ways := []func(l []api.Cell) api.Cell{
		func(l []api.Cell) api.Cell { return l[0] },
		func(l []api.Cell) api.Cell { return l[len(l)-1] },
		func(l []api.Cell) api.Cell { return l[r.Intn(len(l))] },
	}
	dones := 0
	for range 150 {
		m := opened(t)
		for range 8 {
			taken(t, m, randomEdit(r, false)...)
			if r.Intn(2) == 0 {
				continue
			}
			next := ways[r.Intn(len(ways))]
			n := m.Count()
			for k := range n {
				lawOfFlags(t, m)
				if why := m.Done(next(all(m, m.ReadyOf))); why != api.OK || m.Count() != n-1-k {
					t.Fatalf("Done: %d, Count %d", why, m.Count())
				}
			}
			dones += n
			are(t, m, "", "")
		}
	}
	if dones < 1000 {
		t.Error(dones)
	}
}

func TestLawRestored(t *testing.T) { // Promise 15.5: the state of marks, whatever they have been through, is marks that tell the same flags, and go on alike.
	r := rand.New(rand.NewSource(1503))
	for range 80 {
		m, want := opened(t), newModel()
		for range r.Intn(20) {
			play(t, r, m, want)
		}
		again, wantAgain := restored(t, stateOf(m)), want.clone()
		wantAgain.last = api.Effect{}
		agrees(t, again, wantAgain)
		if tellsGraph(again) != tellsGraph(m) || tellsFlags(again) != tellsFlags(m) {
			t.Fatal("restored marks tell another thing")
		}
		for range 6 {
			play(t, r, again, wantAgain)
			play(t, r, m, want)
		}
	}
}

func TestLawApart(t *testing.T) { // R4: two Marks have nothing in common.
	r := rand.New(rand.NewSource(1504))
	one, two := opened(t), opened(t)
	wantOne, wantTwo := newModel(), newModel()
	for range 60 {
		still := tellsAll(two)
		_, what := play(t, r, one, wantOne)
		if tellsAll(two) != still {
			t.Fatal(what, "of one is told by another")
		}
		one, two, wantOne, wantTwo = two, one, wantTwo, wantOne
	}
	// One restored of the other's state, too.
	three := restored(t, stateOf(one))
	wantThree := wantOne.clone()
	wantThree.last = api.Effect{}
	for range 20 {
		still := tellsAll(one)
		play(t, r, three, wantThree)
		if tellsAll(one) != still {
			t.Fatal("restored marks share something with those whose state they were made of")
		}
	}
}

func TestReadsTurnNothing(t *testing.T) { // W6, R4: what was asked ahead is nothing to what is told.
	r := rand.New(rand.NewSource(1506))
	for range 20 {
		asked, silent := opened(t), opened(t)
		for range 8 {
			l := randomEdit(r, true)
			asked.Edit(l...)
			silent.Edit(l...)
			if one, two := tellsAll(asked), tellsAll(asked); one != two {
				t.Fatalf("%s, asked again %s", one, two)
			}
			c := randomCell(r)
			asked.Done(c)
			silent.Done(c)
		}
		if tellsAll(asked) != tellsAll(silent) {
			t.Fatal("what was asked turns what is told")
		}
	}
}

func TestInnerEdits(t *testing.T) { // R7, R1: behind the graph's or the book's own Edit nothing is promised but that calls end and don't panic.
	r := rand.New(rand.NewSource(1507))
	for range 40 {
		m := opened(t)
		for range 8 {
			m.Edit(randomEdit(r, true)...)
			m.Graph.Edit(randomEdit(r, true)...)
			m.Done(randomCell(r))
			m.Book.Edit(randomEdit(r, true)...)
			for _, c := range append(universe(), strange()...) {
				m.Done(c)
			}
			tellsAll(m)
			Restore(stateOf(m))
		}
	}
}

func TestNothingIsKept(t *testing.T) { // Marks that were emptied know of no stale cell and of none that waits.
	r := rand.New(rand.NewSource(1508))
	for range 20 {
		m := opened(t)
		for range 10 {
			m.Edit(randomEdit(r, true)...)
		}
		var l []api.Change
		for _, c := range universe() {
			l = append(l, api.Change{Cell: c})
		}
		taken(t, m, l...)
		if len(m.stale)+len(m.waits) != 0 {
			t.Fatal(m.stale, m.waits)
		}
	}
}
