package watch

import (
	"fmt"
	"math/rand"
	"slices"
	"testing"

	"whittle/api"
	"whittle/place"
)

// randomCell is one of the universe.
func randomCell(r *rand.Rand) api.Cell {
	l := universe()
	return l[r.Intn(len(l))]
}

// named is a cell as a formula of any sheet names it.
func named(c api.Cell) string { return []string{"S!", "T!", "U!"}[c.Sheet] + place.Name(c) }

// randomPart is a formula over cells of the universe.
func randomPart(r *rand.Rand) string {
	a, b := named(randomCell(r)), named(randomCell(r))
	wide := []string{"A1:B2", "T!A1:B2", "S!A1:C1", "S!B1:B30", "T!A2:D12", "U!A1:F9", "A2:C2", "B2:D12", "U!B2:B2", "S!A3:B3", "S!IV65530:IV65536"}
	over := wide[r.Intn(len(wide))]
	switch r.Intn(20) {
	case 0:
		return "SUM(" + over + ",1)"
	case 1:
		return "IF(" + a + ",1," + b + ")"
	case 2:
		return "COUNTIF(" + over + "," + a + ")"
	case 3:
		return "ROWS(" + over + ")"
	case 4:
		return "INDEX(" + over + "," + a + ")"
	case 5:
		return "SUMIF(" + over + "," + a + ")"
	case 6:
		return "IFERROR(" + a + "," + b + ")"
	case 7:
		return "CHOOSE(" + a + "," + b + ",7,SUM(" + over + "))"
	case 8:
		return "COUNTA(" + over + ")"
	case 9, 10, 11:
		return "7"
	}
	return a
}

// randomText is contents of any kind, formulas most of all.
func randomText(r *rand.Rand) string {
	switch r.Intn(6) {
	case 0:
		return ""
	case 1:
		return []string{"1", "2", "5", "x", "'=A1", "TRUE", "#N/A"}[r.Intn(7)]
	}
	s := "=" + randomPart(r)
	for r.Intn(4) == 0 {
		s += "+" + randomPart(r)
	}
	return s
}

// randomEdit is changes of cells of the universe; if they may be odd, some are refused.
func randomEdit(r *rand.Rand, odd bool) []api.Change {
	var l []api.Change
	for range 1 + r.Intn(4) {
		x := api.Change{Cell: randomCell(r), Text: randomText(r)}
		if odd && r.Intn(20) == 0 {
			x.Text = "=1+"
		}
		if odd && r.Intn(30) == 0 {
			x.Cell.Sheet = 3
		}
		if twice := func(y api.Change) bool { return y.Cell == x.Cell }; odd && r.Intn(3) == 0 || !slices.ContainsFunc(l, twice) {
			l = append(l, x)
		}
	}
	return l
}

// randomViews are areas of a sheet, or nearly.
func randomViews(r *rand.Rand, sheet int) []api.Area {
	var l []api.Area
	for range r.Intn(4) {
		a := api.Area{Sheet: sheet, Top: r.Intn(3), Left: r.Intn(3)}
		a.Bottom, a.Right = a.Top+r.Intn(2), a.Left+r.Intn(3)
		if r.Intn(25) == 0 {
			a.Sheet = r.Intn(4)
		}
		if r.Intn(25) == 0 {
			a.Bottom = a.Top - 1
		}
		l = append(l, a)
	}
	return l
}

// randomBudget is few steps, most of the time.
func randomBudget(r *rand.Rand) int {
	switch r.Intn(8) {
	case 0:
		return r.Intn(200)
	case 1:
		return api.MaxTrace
	}
	return r.Intn(7)
}

// play does one thing with a watch and with the view beside, and holds what is answered.
func play(t *testing.T, r *rand.Rand, x *Watch, want *beside) {
	t.Helper()
	task, budget := r.Intn(3), randomBudget(r)
	switch r.Intn(9) {
	case 0, 1, 2:
		l := randomEdit(r, true)
		same(t, fmt.Sprint("Edit", l), x.Edit(l...), want.edit(l))
	case 3:
		l := randomViews(r, task)
		same(t, fmt.Sprint("See", task, l), x.See(task, l...), want.See(task, l...))
	case 4, 5:
		l, why := x.Trace(task, budget)
		if events := want.trace(task, budget); !slices.Equal(l, events) || why != api.OK {
			t.Fatalf("Trace(%d, %d): %v, %d, want %v", task, budget, l, why, events)
		}
	default:
		ticked(t, x, task, budget, len(want.trace(task, budget)))
	}
}

func TestLawScripts(t *testing.T) { // Promises 18.1 to 18.4, W12: whatever edits, viewports, ticks and traces come, a watch answers and tells what a view does, touches what the chapter's words do, and what Since does not tell, tells what it told.
	r := rand.New(rand.NewSource(1801))
	sums := map[string]int{}
	for range 150 {
		x, want := opened(t), newBeside(t)
		for range 50 {
			play(t, r, x, want)
			agrees(t, x, want)
		}
		alike(t, x, want)
		for why, k := range want.why {
			sums[why] += k
		}
	}
	for _, why := range []string{"named", "stale", "fresh", "cyclic", "written"} {
		if sums[why] < 90 {
			t.Error(sums)
		}
	}
}

func TestLawOfAView(t *testing.T) { // Promise 18.1: a watch tells all that a view of the same edits, viewports and ticks tells, behind each of them.
	r := rand.New(rand.NewSource(1802))
	for range 20 {
		x, want := opened(t), newBeside(t)
		for range 30 {
			play(t, r, x, want)
			alike(t, x, want)
		}
	}
}

func TestLawOfLongPolls(t *testing.T) { // W12: whoever keeps what cells told, and asks again just those that Since tells of, knows what all tell, but for the versions of fresh ones.
	r := rand.New(rand.NewSource(1803))
	asked, all := 0, 0
	for range 60 {
		x, want := opened(t), newBeside(t)
		known := want.tell()
		moment := x.Moment()
		for range 40 {
			for range r.Intn(4) {
				play(t, r, x, want)
			}
			l, why := x.Since(moment)
			if why != api.OK {
				t.Fatal(why)
			}
			for _, c := range l {
				known[c] = bare(read(t, x, c))
			}
			moment = x.Moment()
			asked, all = asked+len(l), all+len(universe())
			for c, told := range known {
				if now := bare(read(t, x, c)); now != told {
					t.Fatalf("%s tells %v, known is %v", names(c), now, told)
				}
			}
		}
	}
	if asked*2 > all {
		t.Error(asked, all)
	}
}

func TestLawApart(t *testing.T) { // R4: two watches have nothing in common.
	r := rand.New(rand.NewSource(1804))
	one, two := opened(t), opened(t)
	wantOne, wantTwo := newBeside(t), newBeside(t)
	for range 60 {
		still := tellsAll(two)
		play(t, r, one, wantOne)
		if tellsAll(two) != still {
			t.Fatal("what one does is told by another")
		}
		agrees(t, one, wantOne)
		one, two, wantOne, wantTwo = two, one, wantTwo, wantOne
	}
}

func TestAskedOrNot(t *testing.T) { // Promise 18.4, R4: what was asked ahead is nothing to what is told.
	r := rand.New(rand.NewSource(1805))
	for range 20 {
		asked, silent := opened(t), opened(t)
		for range 10 {
			l, task, budget := randomEdit(r, true), r.Intn(3), r.Intn(9)
			views := randomViews(r, task)
			for _, x := range []*Watch{asked, silent} {
				x.Edit(l...)
				x.See(task, views...)
				x.Tick(task, budget)
			}
			if one, two := tellsAll(asked), tellsAll(asked); one != two {
				t.Fatalf("%s, asked again %s", one, two)
			}
		}
		if tellsAll(asked) != tellsAll(silent) {
			t.Fatal("what was asked turns what is told")
		}
	}
}

func TestLawOfDones(t *testing.T) { // Promise 18.2, R7: with Dones of others between, too, just accepted edits and steps that write make moments, and touch what the words say.
	r := rand.New(rand.NewSource(1806))
	dones := 0
	for range 100 {
		x, want := opened(t), newBeside(t)
		for range 30 {
			play(t, r, x, want)
			if l := x.ReadyOf(r.Intn(3)); len(l) > 0 && r.Intn(2) == 0 {
				c := l[r.Intn(len(l))]
				same(t, "Done", x.Done(c), want.Done(c))
				dones++
			}
			momentIs(t, x, len(want.touched))
			for m := range x.Moment() + 1 {
				if got, why := x.Since(m); !slices.Equal(got, want.since(m)) || why != api.OK {
					t.Fatalf("Since(%d): %s, %d, want %s", m, names(got...), why, names(want.since(m)...))
				}
			}
		}
		alike(t, x, want)
	}
	if dones < 300 {
		t.Error(dones)
	}
}

func TestInnerCalls(t *testing.T) { // R7, R1: behind an inner Edit, Tick or Trace nothing is promised but that calls end and don't panic.
	r := rand.New(rand.NewSource(1807))
	for range 60 {
		x := opened(t)
		for range 8 {
			x.Edit(randomEdit(r, true)...)
			x.Tick(r.Intn(3), r.Intn(9))
			x.View.Edit(randomEdit(r, true)...)
			x.View.Tick(r.Intn(3), r.Intn(9))
			x.Tasks.Edit(randomEdit(r, true)...)
			x.Tasks.Tick(r.Intn(3), r.Intn(9))
			x.Marks.Edit(randomEdit(r, true)...)
			x.Tick(r.Intn(3), r.Intn(9))
			x.Graph.Edit(randomEdit(r, true)...)
			x.View.Trace(r.Intn(3), r.Intn(9))
			x.Trace(r.Intn(3), r.Intn(99))
			x.Book.Edit(randomEdit(r, true)...)
			for task := -1; task < 4; task++ {
				x.Tick(task, 1<<62)
				x.See(task, randomViews(r, task)...)
			}
			tellsAll(x)
		}
	}
}
