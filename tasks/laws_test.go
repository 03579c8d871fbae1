package tasks

import (
	"fmt"
	"math/rand"
	"slices"
	"testing"

	"whittle/api"
	"whittle/place"
	"whittle/plain"
)

// randomCell is one of the universe.
func randomCell(r *rand.Rand) api.Cell {
	l := universe()
	return l[r.Intn(len(l))]
}

// named is a cell as a formula of any sheet names it.
func named(c api.Cell) string { return []string{"S!", "T!", "U!"}[c.Sheet] + place.Name(c) }

// randomPart is a formula over cells of the universe.
func randomPart(r *rand.Rand) string {
	a, b := named(randomCell(r)), named(randomCell(r))
	wide := []string{"A1:B2", "T!A1:B2", "S!A1:C1", "S!B1:B30", "T!A2:D12", "U!A1:F9", "A2:C2", "B2:D12", "U!B2:B2", "S!A3:B3", "S!IV65530:IV65536"}
	over := wide[r.Intn(len(wide))]
	switch r.Intn(20) {
	case 0:
		return "SUM(" + over + ",1)"
	case 1:
		return "IF(" + a + ",1," + b + ")"
	case 2:
		return "COUNTIF(" + over + "," + a + ")"
	case 3:
		return "ROWS(" + over + ")"
	case 4:
		return "INDEX(" + over + "," + a + ")"
	case 5:
		return "SUMIF(" + over + "," + a + ")"
	case 6:
		return "IFERROR(" + a + "," + b + ")"
	case 7:
		return "CHOOSE(" + a + "," + b + ",7,SUM(" + over + "))"
	case 8:
		return "COUNTA(" + over + ")"
	case 9, 10, 11:
		return "7"
	}
	return a
}

// randomText is contents of any kind, formulas most of all.
func randomText(r *rand.Rand) string {
	switch r.Intn(6) {
	case 0:
		return ""
	case 1:
		return []string{"1", "2", "5", "x", "'=A1", "TRUE", "#N/A"}[r.Intn(7)]
	}
	s := "=" + randomPart(r)
	for r.Intn(4) == 0 {
		s += "+" + randomPart(r)
	}
	return s
}

// randomEdit is changes of cells of the universe; if they may be odd, some are refused.
func randomEdit(r *rand.Rand, odd bool) []api.Change {
	var l []api.Change
	for range 1 + r.Intn(4) {
		x := api.Change{Cell: randomCell(r), Text: randomText(r)}
		if odd && r.Intn(20) == 0 {
			x.Text = "=1+"
		}
		if odd && r.Intn(30) == 0 {
			x.Cell.Sheet = 3
		}
		if twice := func(y api.Change) bool { return y.Cell == x.Cell }; odd && r.Intn(3) == 0 || !slices.ContainsFunc(l, twice) {
			l = append(l, x)
		}
	}
	return l
}

// randomViews are areas of a sheet, or nearly.
func randomViews(r *rand.Rand, sheet int) []api.Area {
	var l []api.Area
	for range r.Intn(4) {
		a := api.Area{Sheet: sheet, Top: r.Intn(3), Left: r.Intn(3)}
		a.Bottom, a.Right = a.Top+r.Intn(2), a.Left+r.Intn(3)
		if r.Intn(25) == 0 {
			a.Sheet = r.Intn(4)
		}
		if r.Intn(25) == 0 {
			a.Bottom = a.Top - 1
		}
		l = append(l, a)
	}
	return l
}

// randomBudget is few steps, most of the time.
func randomBudget(r *rand.Rand) int {
	switch r.Intn(8) {
	case 0:
		return r.Intn(200)
	case 1:
		return api.MaxTrace
	}
	return r.Intn(7)
}

// play does one thing with tasks and with the model, and holds what is answered, and told behind it.
func play(t *testing.T, r *rand.Rand, x *Tasks, want *model) string {
	t.Helper()
	task, what := r.Intn(3), ""
	switch r.Intn(8) {
	case 0, 1:
		l := randomEdit(r, true)
		if x.Edit(l...).Code == api.OK {
			want.edit(l)
		}
		what = fmt.Sprint("Edit", l)
	case 2:
		l := randomViews(r, task)
		wrong := slices.ContainsFunc(l, func(a api.Area) bool { return a.Sheet != task || a.Bottom < a.Top })
		if why := x.See(task, l...); (why == api.ErrSee) != wrong || (why == api.OK) == wrong {
			t.Fatalf("See(%d, %v): %d", task, l, why)
		}
		if !wrong {
			want.views[task] = l
		}
		what = fmt.Sprint("See", task, l)
	default:
		budget := randomBudget(r)
		what = fmt.Sprint("Tick ", task, budget)
		playTick(t, r.Intn(2) == 0, task, budget, x, want)
	}
	agrees(t, x, want)
	return what
}

// playTick does a tick or a trace; W3 holds of it.
func playTick(t *testing.T, traces bool, task, budget int, x *Tasks, want *model) {
	t.Helper()
	work := want.work()
	events := want.trace(task, budget)
	steps := 0
	if traces {
		got := traced(t, x, task, budget)
		if !slices.Equal(got, events) {
			t.Fatalf("Trace(%d, %d): %v, want %v", task, budget, got, events)
		}
		steps = len(got)
	} else {
		got, why := x.Tick(task, budget)
		if got != len(events) || why != api.OK {
			t.Fatalf("Tick(%d, %d): %d, %d, want %d", task, budget, got, why, len(events))
		}
		steps = got
	}
	if want.work() != work-steps || steps > budget {
		t.Fatalf("%d steps make %d of %d", steps, want.work(), work)
	}
}

func TestLawScripts(t *testing.T) { // Promises 16.2 to 16.8, W2 to W4: whatever edits, ticks and viewports come, tasks tell what the chapter's words do.
	r := rand.New(rand.NewSource(1601))
	aborts, parked, circles, olds, wrote := 0, 0, 0, 0, 0
	for range 180 {
		x, want := opened(t), newModel()
		for range 70 {
			version := want.version
			play(t, r, x, want)
			if want.version > version {
				aborts += len(want.aborted)
			}
			for i := range want.texts {
				if want.cyclic(i) {
					circles++
				}
				if want.stale[i] && want.was[i] != blank() {
					olds++
				}
				if want.formula(i) && !want.cyclic(i) && !want.stale[i] {
					wrote++
				}
			}
			for _, f := range want.frames {
				if f.on {
					parked++
				}
			}
			lawOfWork(t, x)
		}
	}
	if aborts < 200 || parked < 2000 || circles < 2000 || olds < 2000 || wrote < 2000 {
		t.Error(aborts, parked, circles, olds, wrote)
	}
}

// lawOfWork holds W1, W3 and 16.10 by what tasks themselves tell: fresh cells tell the model's values, frames are parked on ready cells, behind some steps but fewer than the cost; while a formula is stale, a task has something to do.
func lawOfWork(t *testing.T, x *Tasks) {
	t.Helper()
	values := plain.Of(x.Graph)
	for _, c := range universe() {
		if !x.Stale(c) && x.Value(c) != values.Value(c) {
			t.Fatalf("%s is fresh, and tells %v, not %v", names(c), x.Value(c), values.Value(c))
		}
	}
	busy := 0
	for task := range x.Sheets() {
		next, is := x.Next(task)
		if is != (len(x.ReadyOf(task)) > 0) || is && !x.Ready(next) || is && next.Sheet != task {
			t.Fatalf("Next(%d): %s, %v; ready are %s", task, names(next), is, names(x.ReadyOf(task)...))
		}
		if is {
			busy++
		}
		if p, on := x.Parked(task); on && (p.Steps < 1 || p.Steps >= values.Cost(p.Cell) || p.Cell != next) {
			t.Fatalf("Parked(%d): %v, of a cost of %d", task, p, values.Cost(p.Cell))
		}
	}
	if busy == 0 != (x.Count() == 0) {
		t.Fatalf("%d tasks have something to do, %d cells are stale", busy, x.Count())
	}
}

func TestLawEnds(t *testing.T) { // W3, W5, 16.10: any way of ticking that goes on with tasks that have something to do ends behind W steps, and tells the model's values.
	r := rand.New(rand.NewSource(1602))
	for range 40 {
		x, want := opened(t), newModel()
		for range 6 {
			l := randomEdit(r, false)
			taken(t, x, l...)
			want.edit(l)
			task, budget := r.Intn(3), r.Intn(9)
			k, _ := x.Tick(task, budget)
			if len(want.trace(task, budget)) != k {
				t.Fatal(k)
			}
		}
		work, sum := want.work(), 0
		for x.Count() > 0 {
			task, budget := r.Intn(3), 1+r.Intn(20)
			_, busy := x.Next(task)
			k, why := x.Tick(task, budget)
			sum += k
			if why != api.OK || k > budget || k > 0 != busy || sum > work {
				t.Fatalf("Tick(%d, %d): %d, %d; it has something to do: %v; %d steps of %d", task, budget, k, why, busy, sum, work)
			}
		}
		if sum != work {
			t.Fatalf("%d steps, the work was %d", sum, work)
		}
		lawOfWork(t, x)
	}
}

func TestLawSplit(t *testing.T) { // Promise 16.12: ticks with nothing between are one tick of all their budgets, and so are traces.
	r := rand.New(rand.NewSource(1603))
	for range 60 {
		whole, want := opened(t), newModel()
		for range 12 {
			play(t, r, whole, want)
		}
		task, budget := r.Intn(3), r.Intn(60)
		parts := restored(t, want.state())
		mixed := restored(t, want.state())
		all, _ := whole.Tick(task, budget)
		sum, told := 0, 0
		for left := budget; left > 0; {
			k := 1 + r.Intn(left)
			one, _ := parts.Tick(task, k)
			two, _ := mixed.Trace(task, k)
			sum, told, left = sum+one, told+len(two), left-k
		}
		if sum != all || told != all || tellsFrames(parts) != tellsFrames(whole) || tellsFrames(mixed) != tellsFrames(whole) {
			t.Fatalf("%d steps at once, %d in ticks, %d in traces", all, sum, told)
		}
	}
}

func TestLawRestored(t *testing.T) { // Promise 16.9: the state of tasks at any moment of a script is tasks that tell the same, and go on alike.
	r := rand.New(rand.NewSource(1604))
	frames, olds := 0, 0
	for range 200 {
		x, want := opened(t), newModel()
		for range r.Intn(40) {
			play(t, r, x, want)
		}
		s := want.state()
		for _, f := range s.Frames {
			if f.On {
				frames++
			}
		}
		for _, h := range s.Cells {
			if h.Stale && h.Ever {
				olds++
			}
		}
		again, wantAgain := restored(t, s), want.clone()
		wantAgain.last, wantAgain.aborted = api.Effect{}, nil
		agrees(t, again, wantAgain)
		if tellsFrames(again) != tellsFrames(x) {
			t.Fatal("restored tasks tell another thing")
		}
		for range 8 {
			play(t, r, again, wantAgain)
			play(t, r, x, want)
		}
	}
	if frames < 30 || olds < 30 {
		t.Error(frames, olds)
	}
}

func TestLawApart(t *testing.T) { // R4: two Tasks have nothing in common.
	r := rand.New(rand.NewSource(1605))
	one, two := opened(t), opened(t)
	wantOne, wantTwo := newModel(), newModel()
	for range 80 {
		still := tellsAll(two)
		what := play(t, r, one, wantOne)
		if tellsAll(two) != still {
			t.Fatal(what, "of one is told by another")
		}
		one, two, wantOne, wantTwo = two, one, wantTwo, wantOne
	}
	// Those restored of the other's state, too.
	three, wantThree := restored(t, wantOne.state()), wantOne.clone()
	wantThree.last, wantThree.aborted = api.Effect{}, nil
	for range 30 {
		still := tellsAll(one)
		play(t, r, three, wantThree)
		if tellsAll(one) != still {
			t.Fatal("restored tasks share something with those whose state they were made of")
		}
	}
}

func TestReadsTurnNothing(t *testing.T) { // W3, W6, R4: what was asked ahead is nothing to what is told.
	r := rand.New(rand.NewSource(1606))
	for range 20 {
		asked, silent := opened(t), opened(t)
		for range 10 {
			l, task, budget := randomEdit(r, true), r.Intn(3), r.Intn(9)
			views := randomViews(r, task)
			for _, x := range []*Tasks{asked, silent} {
				x.Edit(l...)
				x.See(task, views...)
				x.Tick(task, budget)
			}
			if one, two := tellsAll(asked), tellsAll(asked); one != two {
				t.Fatalf("%s, asked again %s", one, two)
			}
		}
		if tellsAll(asked) != tellsAll(silent) {
			t.Fatal("what was asked turns what is told")
		}
	}
}

func TestInnerEdits(t *testing.T) { // R7, R1: behind the marks', the graph's or the book's own Edit nothing is promised but that calls end and don't panic.
	r := rand.New(rand.NewSource(1607))
	for range 60 {
		x := opened(t)
		for range 8 {
			x.Edit(randomEdit(r, true)...)
			x.Tick(r.Intn(3), r.Intn(9))
			x.Marks.Edit(randomEdit(r, true)...)
			x.Tick(r.Intn(3), r.Intn(9))
			x.Graph.Edit(randomEdit(r, true)...)
			x.Trace(r.Intn(3), r.Intn(99))
			x.Book.Edit(randomEdit(r, true)...)
			for task := -1; task < 4; task++ {
				x.Tick(task, 1<<62)
				x.See(task, randomViews(r, task)...)
			}
			tellsAll(x)
			Restore(stateOf(x))
		}
	}
}

func TestNothingIsKept(t *testing.T) { // Tasks that were emptied know of no value, of no cell that waits and of no frame.
	r := rand.New(rand.NewSource(1608))
	for range 20 {
		x, want := opened(t), newModel()
		for range 20 {
			play(t, r, x, want)
		}
		var l []api.Change
		for _, c := range universe() {
			l = append(l, api.Change{Cell: c})
		}
		taken(t, x, l...)
		if len(x.told) != 0 || x.known != 0 {
			t.Fatal(x.told, x.known)
		}
		for task, q := range x.queues {
			if q.Len() != 0 || x.frames[task] != nil {
				t.Fatal(q.Cells(), x.frames[task])
			}
		}
	}
}

func TestQueuesAreRight(t *testing.T) { // A queue has just the ready cells of its sheet, on their levels, behind edits, ticks and viewports, without being laid anew.
	r := rand.New(rand.NewSource(1609))
	for range 60 {
		x := opened(t)
		for range 30 {
			task := r.Intn(3)
			switch r.Intn(4) {
			case 0:
				x.Edit(randomEdit(r, true)...)
			case 1:
				x.See(task, randomViews(r, task)...)
			default:
				x.Tick(task, randomBudget(r))
			}
			queuesAreRight(t, x)
		}
	}
}

// queuesAreRight asks the queues, and nothing that would lay them anew.
func queuesAreRight(t *testing.T, x *Tasks) {
	t.Helper()
	if x.known != x.Count() {
		t.Fatalf("the queues know of %d stale cells, of %d", x.known, x.Count())
	}
	for task, q := range x.queues {
		l := q.Cells()
		slices.SortFunc(l, func(a, b api.Cell) int { return number(a) - number(b) })
		same(t, "queued", l, x.ReadyOf(task))
		for _, c := range l {
			if level, _ := q.Level(c); level != x.Level(c) {
				t.Fatalf("%s waits on level %d, not %d", names(c), level, x.Level(c))
			}
		}
	}
}

func TestQueuesAreLaidAnew(t *testing.T) { // Once, where they are asked first, of a state, and behind a Done that others have called.
	x := restored(t, sample())
	nextIs(t, x, 2, "")
	queuesAreRight(t, x)
	ticked(t, x, 1, 99, 8)
	if why := x.Done(at("U!A1")); why != api.OK {
		t.Fatal(why)
	}
	nextIs(t, x, 2, "")
	queuesAreRight(t, x)
}

func TestQueuesCatchUp(t *testing.T) { // An edit, and a write, makes the queues right, though a state or a Done of others has turned flags past them.
	x := restored(t, sample())
	edited(t, x, "C1", "=1")
	queuesAreRight(t, x)
	x = opened(t, "A1", "=1", "B1", "=2", "C1", "=B1", "A2", "=9+9")
	ticked(t, x, 0, 1, 1)
	doneIs(t, x, "B1")
	edited(t, x, "IV1", "=B1")
	queuesAreRight(t, x)
	doneIs(t, x, "C1")
	ticked(t, x, 0, 1, 1) // A1 is written
	valueIs(t, x, "A1", n(1))
	queuesAreRight(t, x)
	wroteIs(t, x, 0, "A2 IV1")
}

// doneOfOthers makes some ready cells fresh past the tasks: by promotion, or by the marks themselves, which is one.
func doneOfOthers(t *testing.T, r *rand.Rand, x *Tasks) int {
	t.Helper()
	count := 0
	for range 1 + r.Intn(3) {
		l := all(x, x.ReadyOf)
		if len(l) == 0 {
			break
		}
		call := []func(api.Cell) api.Errno{x.Done, x.Marks.Done}[r.Intn(2)]
		if why := call(l[r.Intn(len(l))]); why != api.OK {
			t.Fatal(why)
		}
		count++
	}
	return count
}

// nextIsFirst holds Next against what is ready, seen and under way, as the tasks themselves tell it.
func nextIsFirst(t *testing.T, x *Tasks, task int) {
	t.Helper()
	var want []api.Cell
	if p, on := x.Parked(task); on {
		want = []api.Cell{p.Cell}
	} else {
		want = x.ReadyOf(task)
		hidden := func(c api.Cell) bool {
			return !slices.ContainsFunc(x.Areas(task), func(a api.Area) bool { return place.Has(a, c) })
		}
		// They stand in the order of cells, and the sort is stable.
		slices.SortStableFunc(want, func(a, b api.Cell) int { return x.Level(a) - x.Level(b) })
		if looked := slices.DeleteFunc(slices.Clone(want), hidden); len(looked) > 0 {
			want = looked
		}
	}
	next, is := x.Next(task)
	if is != (len(want) > 0) || is && next != want[0] || !is && next != (api.Cell{}) {
		t.Fatalf("Next(%d): %s, %v, want the first of %s", task, names(next), is, names(want...))
	}
}

func TestLawDone(t *testing.T) { // Promises 16.5, 16.6, 16.10, R7: behind Dones of others, too, wherever they come, a task goes on with the first of its ready cells, and with all of them.
	r := rand.New(rand.NewSource(1610))
	dones, steps := 0, 0
	for range 600 {
		x, want := opened(t), newModel()
		for range r.Intn(8) {
			play(t, r, x, want)
		}
		if r.Intn(2) == 0 {
			x = restored(t, want.state())
		}
		for range 12 {
			switch task := r.Intn(3); r.Intn(6) {
			case 0, 1:
				dones += doneOfOthers(t, r, x)
			case 2, 3:
				x.Edit(randomEdit(r, true)...)
			case 4:
				x.See(task, randomViews(r, task)...)
			default:
				steps += tickOfFirst(t, x, task, randomBudget(r))
			}
			if r.Intn(3) == 0 { // not each time: Next itself makes the queues catch up
				nextIsFirst(t, x, r.Intn(3))
			}
		}
		settle(t, x)
	}
	if dones < 1000 || steps < 500 {
		t.Error(dones, steps)
	}
}

// tickOfFirst ticks step by step; each step is of the first ready cell, or of the frame. It tells how many were done.
func tickOfFirst(t *testing.T, x *Tasks, task, budget int) int {
	t.Helper()
	steps := 0
	for range budget {
		next, is := x.Next(task)
		nextIsFirst(t, x, task)
		l := traced(t, x, task, 1)
		if len(l) > 0 != is || is && l[0].Cell != next {
			t.Fatalf("Trace(%d, 1): %v, next was %s, %v", task, l, names(next), is)
		}
		if !is {
			break
		}
		steps++
	}
	return steps
}
