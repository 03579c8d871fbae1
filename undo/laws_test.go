package undo

import (
	"fmt"
	"maps"
	"math/rand"
	"slices"
	"testing"

	"whittle/api"
	"whittle/place"
)

// randomCell is one of the universe.
func randomCell(r *rand.Rand) api.Cell {
	l := universe()
	return l[r.Intn(len(l))]
}

// named is a cell as a formula of any sheet names it.
func named(c api.Cell) string { return []string{"S!", "T!", "U!"}[c.Sheet] + place.Name(c) }

// randomPart is a formula over cells of the universe.
func randomPart(r *rand.Rand) string {
	a, b := named(randomCell(r)), named(randomCell(r))
	wide := []string{"A1:B2", "T!A1:B2", "S!A1:C1", "S!B1:B30", "T!A2:D12", "U!A1:F9", "A2:C2", "B2:D12", "U!B2:B2", "S!A3:B3", "S!IV65530:IV65536"}
	over := wide[r.Intn(len(wide))]
	switch r.Intn(20) {
	case 0:
		return "SUM(" + over + ",1)"
	case 1:
		return "IF(" + a + ",1," + b + ")"
	case 2:
		return "COUNTIF(" + over + "," + a + ")"
	case 3:
		return "ROWS(" + over + ")"
	case 4:
		return "INDEX(" + over + "," + a + ")"
	case 5:
		return "SUMIF(" + over + "," + a + ")"
	case 6:
		return "IFERROR(" + a + "," + b + ")"
	case 7:
		return "CHOOSE(" + a + "," + b + ",7,SUM(" + over + "))"
	case 8:
		return "COUNTA(" + over + ")"
	case 9, 10, 11:
		return "7"
	}
	return a
}

// randomText is contents of any kind, formulas most of all.
func randomText(r *rand.Rand) string {
	switch r.Intn(6) {
	case 0:
		return ""
	case 1:
		return []string{"1", "2", "5", "x", "'=A1", "TRUE", "#N/A"}[r.Intn(7)]
	}
	s := "=" + randomPart(r)
	for r.Intn(4) == 0 {
		s += "+" + randomPart(r)
	}
	return s
}

// randomEdit is changes of cells of the universe; if they may be odd, some are refused.
func randomEdit(r *rand.Rand, odd bool) []api.Change {
	var l []api.Change
	for range 1 + r.Intn(4) {
		x := api.Change{Cell: randomCell(r), Text: randomText(r)}
		if odd && r.Intn(20) == 0 {
			x.Text = "=1+"
		}
		if odd && r.Intn(30) == 0 {
			x.Cell.Sheet = 3
		}
		if twice := func(y api.Change) bool { return y.Cell == x.Cell }; odd && r.Intn(3) == 0 || !slices.ContainsFunc(l, twice) {
			l = append(l, x)
		}
	}
	return l
}

// randomViews are areas of a sheet, or nearly.
func randomViews(r *rand.Rand, sheet int) []api.Area {
	var l []api.Area
	for range r.Intn(4) {
		a := api.Area{Sheet: sheet, Top: r.Intn(3), Left: r.Intn(3)}
		a.Bottom, a.Right = a.Top+r.Intn(2), a.Left+r.Intn(3)
		if r.Intn(25) == 0 {
			a.Sheet = r.Intn(4)
		}
		if r.Intn(25) == 0 {
			a.Bottom = a.Top - 1
		}
		l = append(l, a)
	}
	return l
}

// randomBudget is few steps, most of the time.
func randomBudget(r *rand.Rand) int {
	switch r.Intn(8) {
	case 0:
		return r.Intn(200)
	case 1:
		return api.MaxTrace
	}
	return r.Intn(7)
}

// same holds two answers to what was asked.
func same(t *testing.T, call string, got, want any) {
	t.Helper()
	if fmt.Sprint(got) != fmt.Sprint(want) {
		t.Fatalf("%s: %v, want %v", call, got, want)
	}
}

// play does one thing with an undo and with the watch beside, holds what is answered, and tells what it was.
func play(t *testing.T, r *rand.Rand, x *Undo, want *beside) string {
	t.Helper()
	task, budget := r.Intn(3), randomBudget(r)
	switch r.Intn(12) {
	case 0, 1, 2:
		l := randomEdit(r, true)
		got := x.Edit(l...)
		same(t, fmt.Sprint("Edit", l), got, want.edit(l))
		return fmt.Sprint("edit ", got.Code == api.OK)
	case 3, 4, 5:
		got := x.Undo()
		same(t, "Undo", got, want.undo(t))
		return fmt.Sprint("undo ", got == api.OK)
	case 6, 7:
		got := x.Redo()
		same(t, "Redo", got, want.redo(t))
		return fmt.Sprint("redo ", got == api.OK)
	case 8:
		l := randomViews(r, task)
		same(t, fmt.Sprint("See", task, l), x.See(task, l...), want.See(task, l...))
	case 9:
		l, why := x.Trace(task, budget)
		events, too := want.Trace(task, budget)
		same(t, fmt.Sprint("Trace ", task, budget), fmt.Sprint(l, why), fmt.Sprint(events, too))
	default:
		k, why := want.Tick(task, budget)
		if why != api.OK {
			t.Fatal(why)
		}
		ticked(t, x, task, budget, k)
	}
	return "else"
}

func TestLawScripts(t *testing.T) { // Promises 19.1 to 19.4, W9: whatever edits, viewports, ticks, undos and redos come, an undo answers and tells what a watch of the same edits does, and holds the contents that the chapter's words say.
	r := rand.New(rand.NewSource(1901))
	sums := map[string]int{}
	for range 60 {
		x, want := opened(t), newBeside(t)
		for range 60 {
			sums[play(t, r, x, want)]++
			agrees(t, x, want)
		}
		alike(t, x, want)
	}
	for _, what := range []string{"edit true", "edit false", "undo true", "undo false", "redo true", "redo false"} {
		if sums[what] < 60 {
			t.Error(sums)
		}
	}
}

func TestLawOfAWatch(t *testing.T) { // Promises 19.1, 19.4, W4, W6: an undo tells all that a watch tells that was edited likewise, behind each call.
	r := rand.New(rand.NewSource(1902))
	for range 12 {
		x, want := opened(t), newBeside(t)
		for range 30 {
			play(t, r, x, want)
			alike(t, x, want)
		}
	}
}

func TestLawOfLongScripts(t *testing.T) { // Promises 19.2, 19.3: scripts that go far past MaxUndo.
	r := rand.New(rand.NewSource(1903))
	forgot := 0
	for range 10 {
		x, want := opened(t), newBeside(t)
		for range 40 {
			for range r.Intn(25) {
				l := randomEdit(r, false)
				same(t, "Edit", x.Edit(l...), want.edit(l))
				agrees(t, x, want)
			}
			for range r.Intn(9) {
				play(t, r, x, want)
				agrees(t, x, want)
			}
		}
		for want.stand > 0 {
			same(t, "Undo", x.Undo(), want.undo(t))
			agrees(t, x, want)
		}
		stuck(t, x, x.Undo)
		if x.Len() > 0 {
			forgot++
		}
		alike(t, x, want)
	}
	if forgot < 8 {
		t.Error(forgot)
	}
}

func TestLawThereAndBack(t *testing.T) { // Promise 19.5: wherever one stands, with ticks between.
	r := rand.New(rand.NewSource(1904))
	for range 60 {
		x, want := opened(t), newBeside(t)
		for range 40 {
			play(t, r, x, want)
		}
		began := contents(x)
		back, forth := x.Steps()
		for range back {
			undone(t, x)
			x.Tick(r.Intn(3), r.Intn(9))
		}
		stuck(t, x, x.Undo)
		for range back {
			redone(t, x)
			x.Tick(r.Intn(3), r.Intn(9))
		}
		stepsAre(t, x, back, forth)
		if !maps.Equal(contents(x), began) {
			t.Fatalf("%v, began with %v", contents(x), began)
		}
		settle(t, x)
		settleWatch(t, want)
		for _, c := range universe() { // W5: what is idle tells the same, whatever was taken back between.
			one, _ := x.Read(c)
			two, _ := want.Read(c)
			if one.V != two.V || one.Fresh != two.Fresh {
				t.Fatalf("%s tells %v, want %v", names(c), one, two)
			}
		}
	}
}

// settleWatch ticks the watch beside until nothing is stale.
func settleWatch(t *testing.T, want *beside) {
	t.Helper()
	for want.Count() > 0 {
		for task := range want.Sheets() {
			if _, why := want.Tick(task, 1<<40); why != api.OK {
				t.Fatal(why)
			}
		}
	}
}

func TestLawApart(t *testing.T) { // R4: two undos have nothing in common.
	r := rand.New(rand.NewSource(1905))
	one, two := opened(t), opened(t)
	wantOne, wantTwo := newBeside(t), newBeside(t)
	for range 60 {
		still := tellsAll(two)
		play(t, r, one, wantOne)
		if tellsAll(two) != still {
			t.Fatal("what one does is told by another")
		}
		agrees(t, one, wantOne)
		one, two, wantOne, wantTwo = two, one, wantTwo, wantOne
	}
}

func TestAskedOrNot(t *testing.T) { // R4: what was asked ahead, refused ones too, is nothing to what is told.
	r := rand.New(rand.NewSource(1906))
	for range 15 {
		asked, silent := opened(t), opened(t)
		for range 12 {
			l, budget, way := randomEdit(r, true), r.Intn(9), r.Intn(4)
			for _, x := range []*Undo{asked, silent} {
				x.Edit(l...)
				x.Tick(0, budget)
				if way > 0 {
					x.Undo()
				}
				if way > 1 {
					x.Undo()
				}
				if way > 2 {
					x.Redo()
				}
			}
			if one, two := tellsAll(asked), tellsAll(asked); one != two {
				t.Fatalf("%s, asked again %s", one, two)
			}
		}
		if tellsAll(asked) != tellsAll(silent) {
			t.Fatal("what was asked turns what is told")
		}
	}
}

func TestInnerCalls(t *testing.T) { // R7, R1: behind an inner Edit, Tick or Trace nothing is promised but that calls end and don't panic.
	r := rand.New(rand.NewSource(1907))
	for range 40 {
		x := opened(t)
		for range 8 {
			x.Edit(randomEdit(r, true)...)
			x.Watch.Edit(randomEdit(r, true)...)
			x.Undo()
			x.View.Edit(randomEdit(r, true)...)
			x.View.Tick(r.Intn(3), r.Intn(9))
			x.Redo()
			x.Tasks.Edit(randomEdit(r, true)...)
			x.Edit(randomEdit(r, true)...)
			x.Marks.Edit(randomEdit(r, true)...)
			x.Undo()
			x.Graph.Edit(randomEdit(r, true)...)
			x.Undo()
			x.Book.Edit(randomEdit(r, true)...)
			x.Redo()
			for task := -1; task < 4; task++ {
				x.Tick(task, 1<<62)
			}
			tellsAll(x)
		}
	}
}

func TestInnerEditsThatFill(t *testing.T) { // R7, R1: nor where what an Undo would lay has no room any more.
	x := opened(t, "T!A1", "1", "T!A2", "2")
	edited(t, x, "T!A1", "", "T!A2", "")
	for i := range api.MaxCells / api.MaxBatch {
		var l []api.Change
		for k := range api.MaxBatch {
			l = append(l, api.Change{Cell: api.Cell{Row: i, Col: k}, Text: "1"})
		}
		x.Watch.Edit(l...)
	}
	x.Undo()
	x.Undo()
	x.Redo()
	x.Steps()
	x.Edit(put("A1", ""), put("B1", ""))
	x.Undo()
	x.Redo()
}
