package view

import (
	"fmt"
	"maps"
	"math/rand"
	"slices"
	"testing"

	"whittle/api"
	"whittle/place"
	"whittle/plain"
)

// randomCell is one of the universe.
func randomCell(r *rand.Rand) api.Cell {
	l := universe()
	return l[r.Intn(len(l))]
}

// named is a cell as a formula of any sheet names it.
func named(c api.Cell) string { return []string{"S!", "T!", "U!"}[c.Sheet] + place.Name(c) }

// randomPart is a formula over cells of the universe.
func randomPart(r *rand.Rand) string {
	a, b := named(randomCell(r)), named(randomCell(r))
	wide := []string{"A1:B2", "T!A1:B2", "S!A1:C1", "S!B1:B30", "T!A2:D12", "U!A1:F9", "A2:C2", "B2:D12", "U!B2:B2", "S!A3:B3", "S!IV65530:IV65536"}
	over := wide[r.Intn(len(wide))]
	switch r.Intn(20) {
	case 0:
		return "SUM(" + over + ",1)"
	case 1:
		return "IF(" + a + ",1," + b + ")"
	case 2:
		return "COUNTIF(" + over + "," + a + ")"
	case 3:
		return "ROWS(" + over + ")"
	case 4:
		return "INDEX(" + over + "," + a + ")"
	case 5:
		return "SUMIF(" + over + "," + a + ")"
	case 6:
		return "IFERROR(" + a + "," + b + ")"
	case 7:
		return "CHOOSE(" + a + "," + b + ",7,SUM(" + over + "))"
	case 8:
		return "COUNTA(" + over + ")"
	case 9, 10, 11:
		return "7"
	}
	return a
}

// randomText is contents of any kind, formulas most of all.
func randomText(r *rand.Rand) string {
	switch r.Intn(6) {
	case 0:
		return ""
	case 1:
		return []string{"1", "2", "5", "x", "'=A1", "TRUE", "#N/A"}[r.Intn(7)]
	}
	s := "=" + randomPart(r)
	for r.Intn(4) == 0 {
		s += "+" + randomPart(r)
	}
	return s
}

// randomEdit is changes of cells of the universe; if they may be odd, some are refused.
func randomEdit(r *rand.Rand, odd bool) []api.Change {
	var l []api.Change
	for range 1 + r.Intn(4) {
		x := api.Change{Cell: randomCell(r), Text: randomText(r)}
		if odd && r.Intn(20) == 0 {
			x.Text = "=1+"
		}
		if odd && r.Intn(30) == 0 {
			x.Cell.Sheet = 3
		}
		if twice := func(y api.Change) bool { return y.Cell == x.Cell }; odd && r.Intn(3) == 0 || !slices.ContainsFunc(l, twice) {
			l = append(l, x)
		}
	}
	return l
}

// randomViews are areas of a sheet, or nearly.
func randomViews(r *rand.Rand, sheet int) []api.Area {
	var l []api.Area
	for range r.Intn(4) {
		a := api.Area{Sheet: sheet, Top: r.Intn(3), Left: r.Intn(3)}
		a.Bottom, a.Right = a.Top+r.Intn(2), a.Left+r.Intn(3)
		if r.Intn(25) == 0 {
			a.Sheet = r.Intn(4)
		}
		if r.Intn(25) == 0 {
			a.Bottom = a.Top - 1
		}
		l = append(l, a)
	}
	return l
}

// randomBudget is few steps, most of the time.
func randomBudget(r *rand.Rand) int {
	switch r.Intn(8) {
	case 0:
		return r.Intn(200)
	case 1:
		return api.MaxTrace
	}
	return r.Intn(7)
}

// play does one thing with a view and with the model, and holds what is answered, and told behind it.
func play(t *testing.T, r *rand.Rand, x *View, want *model) string {
	t.Helper()
	task, what := r.Intn(3), ""
	switch r.Intn(8) {
	case 0, 1:
		l := randomEdit(r, true)
		if x.Edit(l...).Code == api.OK {
			want.edit(l)
		}
		what = fmt.Sprint("Edit", l)
	case 2:
		l := randomViews(r, task)
		wrong := slices.ContainsFunc(l, func(a api.Area) bool { return a.Sheet != task || a.Bottom < a.Top })
		if why := x.See(task, l...); (why == api.ErrSee) != wrong || (why == api.OK) == wrong {
			t.Fatalf("See(%d, %v): %d", task, l, why)
		}
		if !wrong {
			want.views[task] = l
		}
		what = fmt.Sprint("See", task, l)
	default:
		budget := randomBudget(r)
		what = fmt.Sprint("Tick ", task, budget)
		playTick(t, r.Intn(2) == 0, task, budget, x, want)
	}
	agrees(t, x, want)
	return what
}

// playTick does a tick or a trace; W3 holds of it.
func playTick(t *testing.T, traces bool, task, budget int, x *View, want *model) {
	t.Helper()
	work := want.work()
	events := want.trace(task, budget)
	steps := 0
	if traces {
		got := traced(t, x, task, budget)
		if !slices.Equal(got, events) {
			t.Fatalf("Trace(%d, %d): %v, want %v", task, budget, got, events)
		}
		steps = len(got)
	} else {
		got, why := x.Tick(task, budget)
		if got != len(events) || why != api.OK {
			t.Fatalf("Tick(%d, %d): %d, %d, want %d", task, budget, got, why, len(events))
		}
		steps = got
	}
	if want.work() != work-steps || steps > budget {
		t.Fatalf("%d steps make %d of %d", steps, want.work(), work)
	}
}

func TestLawScripts(t *testing.T) { // Promises 17.1 to 17.4, 17.6: whatever edits, ticks, traces and viewports come, a view tells what the chapter's words do.
	r := rand.New(rand.NewSource(1702))
	olds, nevers, circles, shown, parked := 0, 0, 0, 0, 0
	for range 150 {
		x, want := opened(t), newModel()
		for range 60 {
			play(t, r, x, want)
			lawOfFresh(t, x)
			for i := range want.texts {
				switch seen := want.told(i); {
				case seen.Ever && !seen.Fresh:
					olds++
				case !seen.Fresh:
					nevers++
				case want.cyclic(i):
					circles++
				}
			}
			for task := range 3 {
				shown += len(want.window(task))
				if want.frames[task].on {
					parked++
				}
			}
		}
	}
	if olds < 2000 || nevers < 2000 || circles < 2000 || shown < 2000 || parked < 1000 {
		t.Error(olds, nevers, circles, shown, parked)
	}
}

// lawOfFresh holds W1 of fresh cells by what a view itself tells: the model's value under the contents as they are.
func lawOfFresh(t *testing.T, x *View) {
	t.Helper()
	values := plain.Of(x.Graph)
	for _, c := range universe() {
		if got := read(t, x, c); got.Fresh && got != (api.Seen{V: values.Value(c), Fresh: true, Ever: x.Text(c) != "", Version: x.Version()}) {
			t.Fatalf("%s is fresh, and tells %v, not %v", names(c), got, values.Value(c))
		}
	}
}

// diary is what each cell is to tell, written on from what it told: so it goes on behind Dones of others, too.
type diary map[api.Cell]api.Seen

// edited writes on behind an accepted edit.
func (d diary) edited(x *View, changes []api.Change) {
	var cells []api.Cell
	for _, change := range changes {
		cells = append(cells, change.Cell)
	}
	touched := append(x.Reach(cells...), cells...)
	values := plain.Of(x.Graph)
	for _, c := range universe() {
		was := d[c]
		switch {
		case x.Stale(c) && was.Fresh && was.Ever:
			d[c] = api.Seen{V: was.V, Ever: true, Version: x.Version() - 1}
		case x.Stale(c) && was.Fresh:
			d[c] = api.Seen{}
		case x.Stale(c):
		default:
			v := was.V
			if slices.Contains(touched, c) {
				v = values.Value(c)
			}
			d.freshen(x, c, v)
		}
	}
}

// freshen writes on that a cell is fresh, with this value.
func (d diary) freshen(x *View, c api.Cell, v api.Value) {
	d[c] = api.Seen{V: v, Fresh: true, Ever: x.Text(c) != "", Version: x.Version()}
}

// play does one thing, Dones of others too, and writes it on.
func (d diary) play(t *testing.T, r *rand.Rand, x *View) {
	t.Helper()
	switch task := r.Intn(3); r.Intn(5) {
	case 0, 1:
		l := randomEdit(r, true)
		if x.Edit(l...).Code == api.OK {
			d.edited(x, l)
		}
	case 2:
		l := all(x, x.ReadyOf)
		if len(l) == 0 {
			return
		}
		c := l[r.Intn(len(l))]
		if why := x.Done(c); why != api.OK {
			t.Fatal(why)
		}
		d.freshen(x, c, d[c].V)
	default:
		for _, e := range traced(t, x, task, randomBudget(r)) {
			if e.Wrote {
				d.freshen(x, e.Cell, e.V)
			}
		}
	}
}

func TestLawDiary(t *testing.T) { // Promises 17.2, 15.4, R7: what a cell tells goes on from what it told, behind Dones of others, too.
	r := rand.New(rand.NewSource(1703))
	olds, untrue := 0, 0
	for range 400 {
		x, d := opened(t), diary{}
		for _, c := range universe() {
			d[c] = vacant(0)
		}
		for range 25 {
			d.play(t, r, x)
			values := plain.Of(x.Graph)
			for _, c := range universe() {
				got := read(t, x, c)
				if got != d[c] {
					t.Fatalf("%s, which holds %q, tells %v, want %v", names(c), x.Text(c), got, d[c])
				}
				if got.Ever && !got.Fresh {
					olds++
				}
				if got.Fresh && got.V != values.Value(c) {
					untrue++
				}
			}
			idleIs(t, x, x.Count() == 0)
		}
	}
	if olds < 2000 || untrue < 1000 {
		t.Error(olds, untrue)
	}
}

func TestLawRestored(t *testing.T) { // Promises 17.5, 17.7: the state of a view at any moment of a script is a view that tells the same, but what the last edit did, and goes on alike, whatever comes.
	r := rand.New(rand.NewSource(1704))
	frames, olds := 0, 0
	for range 200 {
		x, want := opened(t), newModel()
		for range r.Intn(40) {
			play(t, r, x, want)
		}
		s := x.State()
		for _, f := range s.Frames {
			if f.On {
				frames++
			}
		}
		for _, h := range s.Cells {
			if h.Stale && h.Ever {
				olds++
			}
		}
		again, wantAgain := restored(t, s), want.clone()
		wantAgain.last, wantAgain.aborted = api.Effect{}, nil
		agrees(t, again, wantAgain)
		if tellsTasks(again) != tellsTasks(x) || tells(again) != tells(x) {
			t.Fatal("a restored view tells another thing")
		}
		seed := r.Int63()
		one, two := rand.New(rand.NewSource(seed)), rand.New(rand.NewSource(seed))
		for range 8 {
			if a, b := play(t, one, x, want), play(t, two, again, wantAgain); a != b {
				t.Fatal(a, b)
			}
			if x.Version() > s.Version && tellsAll(x) != tellsAll(again) {
				t.Fatal("a restored view goes on another way")
			}
			if tellsTasks(x) != tellsTasks(again) || tells(x) != tells(again) {
				t.Fatal("a restored view goes on another way")
			}
		}
	}
	if frames < 30 || olds < 60 {
		t.Error(frames, olds)
	}
}

func TestLawRestoredBehindDones(t *testing.T) { // Promises 17.5, 17.7, R7: behind Dones of others, too, a restored view goes on as the one whose state it was; but of a cell that was Done while its frame was under way there is no state that Restore takes (16.9).
	r := rand.New(rand.NewSource(1712))
	takes, refuses := 0, 0
	for range 300 {
		x, d := opened(t), diary{}
		for _, c := range universe() {
			d[c] = vacant(0)
		}
		for range r.Intn(25) {
			d.play(t, r, x)
		}
		again, why := Restore(x.State())
		off := func(task int) bool { p, on := x.Parked(task); return on && !x.Ready(p.Cell) }
		if slices.ContainsFunc([]int{0, 1, 2}, off) {
			refuses++
			if again != nil || why != api.ErrState {
				t.Fatal(why)
			}
			continue
		}
		takes++
		if why != api.OK {
			t.Fatal(why)
		}
		seed := r.Int63()
		one, two := rand.New(rand.NewSource(seed)), rand.New(rand.NewSource(seed))
		other := maps.Clone(d)
		for range 12 {
			if tellsTasks(x) != tellsTasks(again) || tells(x) != tells(again) {
				t.Fatal("a restored view goes on another way")
			}
			d.play(t, one, x)
			other.play(t, two, again)
		}
	}
	if takes < 150 || refuses < 10 {
		t.Error(takes, refuses)
	}
}

func TestLawOftenRestored(t *testing.T) { // Promise 17.7: a view that is written down and restored between any two calls tells what one tells that is not.
	r := rand.New(rand.NewSource(1705))
	for range 40 {
		x, want := opened(t), newModel()
		for range 40 {
			play(t, r, x, want)
			s := x.State()
			x = restored(t, s)
			want.last, want.aborted = api.Effect{}, nil
			if !sameState(x.State(), s) {
				t.Fatal("another state")
			}
		}
	}
}

func TestLawSchedules(t *testing.T) { // Promise 17.8, W5: views behind the same accepted edits, ticked in unlike ways till both are idle, tell the same of every cell.
	r := rand.New(rand.NewSource(1706))
	for range 80 {
		one, two, three := opened(t), opened(t), opened(t)
		for range 10 {
			l := randomEdit(r, true)
			a, b, c := one.Edit(l...), two.Edit(l...), three.Edit(l...)
			if a != b || a != c {
				t.Fatal(a, b, c)
			}
			one.Tick(r.Intn(3), r.Intn(30))
			two.See(1, randomViews(r, 1)...)
			two.Trace(r.Intn(3), r.Intn(3))
			if r.Intn(3) == 0 {
				two = restored(t, two.State())
			}
		}
		for !one.Idle() {
			one.Tick(r.Intn(3), 1+r.Intn(3))
		}
		for !two.Idle() {
			two.Trace(r.Intn(3), 1+r.Intn(50))
		}
		settle(t, three)
		for _, c := range universe() {
			a, b, c2 := read(t, one, c), read(t, two, c), read(t, three, c)
			if a != b || a != c2 || !a.Fresh {
				t.Fatalf("%s tells %v, %v, %v", names(c), a, b, c2)
			}
		}
		lawOfFresh(t, one)
	}
}

func TestLawApart(t *testing.T) { // R4: two views have nothing in common.
	r := rand.New(rand.NewSource(1707))
	one, two := opened(t), opened(t)
	wantOne, wantTwo := newModel(), newModel()
	for range 80 {
		still := tellsAll(two)
		what := play(t, r, one, wantOne)
		if tellsAll(two) != still {
			t.Fatal(what, "of one is told by another")
		}
		one, two, wantOne, wantTwo = two, one, wantTwo, wantOne
	}
	// One restored of the other's state, too.
	three, wantThree := restored(t, one.State()), wantOne.clone()
	wantThree.last, wantThree.aborted = api.Effect{}, nil
	for range 30 {
		still := tellsAll(one)
		play(t, r, three, wantThree)
		if tellsAll(one) != still {
			t.Fatal("a restored view shares something with the one whose state it was made of")
		}
	}
}

func TestReadsTurnNothing(t *testing.T) { // Promise 17.7, R4: what was asked ahead is nothing to what is told.
	r := rand.New(rand.NewSource(1708))
	for range 20 {
		asked, silent := opened(t), opened(t)
		for range 10 {
			l, task, budget := randomEdit(r, true), r.Intn(3), r.Intn(9)
			views := randomViews(r, task)
			for _, x := range []*View{asked, silent} {
				x.Edit(l...)
				x.See(task, views...)
				x.Tick(task, budget)
			}
			if one, two := tellsAll(asked), tellsAll(asked); one != two {
				t.Fatalf("%s, asked again %s", one, two)
			}
		}
		if tellsAll(asked) != tellsAll(silent) {
			t.Fatal("what was asked turns what is told")
		}
	}
}

func TestInnerCalls(t *testing.T) { // R7, R1: behind the tasks', the marks', the graph's or the book's own Edit, and the tasks' own Tick and Trace, nothing is promised but that calls end and don't panic.
	r := rand.New(rand.NewSource(1709))
	for range 60 {
		x := opened(t)
		for range 8 {
			x.Edit(randomEdit(r, true)...)
			x.Tick(r.Intn(3), r.Intn(9))
			x.Tasks.Edit(randomEdit(r, true)...)
			x.Tasks.Tick(r.Intn(3), r.Intn(9))
			x.Marks.Edit(randomEdit(r, true)...)
			x.Tick(r.Intn(3), r.Intn(9))
			x.Graph.Edit(randomEdit(r, true)...)
			x.Tasks.Trace(r.Intn(3), r.Intn(9))
			x.Trace(r.Intn(3), r.Intn(99))
			x.Book.Edit(randomEdit(r, true)...)
			for task := -1; task < 4; task++ {
				x.Tick(task, 1<<62)
				x.See(task, randomViews(r, task)...)
			}
			tellsAll(x)
			Restore(x.State())
		}
	}
}

func TestNothingIsKept(t *testing.T) { // What is kept of cells that are fresh again is dropped: of an idle view nothing is kept, of any other no more than twice as much as cells are stale.
	r := rand.New(rand.NewSource(1710))
	most := 0
	for range 60 {
		x, want := opened(t), newModel()
		for range 60 {
			play(t, r, x, want)
			most = max(most, len(x.until))
			if len(x.until) > 2*x.Count() {
				t.Fatalf("%d are kept, %d are stale", len(x.until), x.Count())
			}
		}
	}
	if most < 4 {
		t.Error(most)
	}
}
