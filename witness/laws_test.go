package witness

import (
	"math/rand"
	"slices"
	"testing"

	"whittle/api"
	"whittle/place"
	"whittle/tasks"
)

// universe are the cells that scripts edit.
func universe() []api.Cell {
	return list("A1 B1 C1 IV1 A2 B2 C2 A3 B3 IV65536 T!A1 T!B1 T!A2 T!B2 T!IV65536 U!A1 U!B2")
}

func randomCell(r *rand.Rand) api.Cell {
	l := universe()
	return l[r.Intn(len(l))]
}

// named is a cell as a formula of any sheet names it.
func named(c api.Cell) string { return sheets()[c.Sheet] + "!" + place.Name(c) }

// randomPart is a formula over cells of the universe.
func randomPart(r *rand.Rand) string {
	a, b := named(randomCell(r)), named(randomCell(r))
	wide := []string{"A1:B2", "T!A1:B2", "S!A1:C1", "S!B1:B30", "T!A2:D12", "U!A1:F9", "A2:C2", "B2:D12", "U!B2:B2", "S!A3:B3", "S!IV65530:IV65536"}
	over := wide[r.Intn(len(wide))]
	return []string{
		"SUM(" + over + ",1)", "IF(" + a + ",1," + b + ")", "COUNTIF(" + over + "," + a + ")", "ROWS(" + over + ")",
		"INDEX(" + over + "," + a + ")", "SUMIF(" + over + "," + a + ")", "IFERROR(" + a + "," + b + ")", "CHOOSE(" + a + "," + b + ",7,SUM(" + over + "))",
		"SUMPRODUCT(A1:B2,T!A1:B2)", "LOOKUP(" + a + ",U!A1:A2,S!B1:B2)", "AND(" + a + "," + over + ")", "MATCH(" + a + "," + over + ")",
		"7", "7", a, a, a + "&" + b, "-" + a, a + "+" + b,
	}[r.Intn(19)]
}

// randomText is contents of any kind, formulas most of all.
func randomText(r *rand.Rand) string {
	switch r.Intn(6) {
	case 0:
		return ""
	case 1:
		return []string{"1", "2", "5", "x", "'=A1", "TRUE", "#N/A"}[r.Intn(7)]
	}
	s := "=" + randomPart(r)
	for r.Intn(4) == 0 {
		s += "+" + randomPart(r)
	}
	return s
}

// randomEdit is changes of cells of the universe, each once.
func randomEdit(r *rand.Rand) []api.Change {
	l := universe()
	r.Shuffle(len(l), func(i, k int) { l[i], l[k] = l[k], l[i] })
	var changes []api.Change
	for _, c := range l[:1+r.Intn(5)] {
		changes = append(changes, api.Change{Cell: c, Text: randomText(r)})
	}
	return changes
}

// play does one thing with tasks: an edit, a tick of few steps, now and then a Done of others.
func play(t *testing.T, r *rand.Rand, x *tasks.Tasks) {
	t.Helper()
	switch r.Intn(8) {
	case 0, 1, 2:
		if no := x.Edit(randomEdit(r)...); no.Code != api.OK {
			t.Fatal(no)
		}
	case 3:
		if l := x.ReadyOf(r.Intn(3)); len(l) > 0 && r.Intn(4) == 0 {
			x.Done(l[r.Intn(len(l))])
		}
	default:
		x.Tick(r.Intn(3), r.Intn(12))
	}
}

func TestLawChain(t *testing.T) { // Promises 22.1, 22.4: of every cell at any moment of scripts.
	r := rand.New(rand.NewSource(2201))
	fresh, ones, longs := 0, 0, 0
	for range 600 {
		x := opened(t)
		for range 30 {
			play(t, r, x)
			for _, c := range append(universe(), list("D9 T!Z1 U!IV65536")...) {
				if !x.Stale(c) {
					fresh++
					noChain(t, x, c, api.ErrFresh)
					continue
				}
				l, why := Chain(x, c)
				if want := chainOf(x, c); !slices.Equal(l, want) || why != api.OK {
					t.Fatalf("Chain(%s): %s, %d, want %s", names(c), names(l...), why, names(want...))
				}
				lawOfChain(t, x, c, l)
				if len(l) == 1 {
					ones++
				} else if len(l) > 3 {
					longs++
				}
			}
		}
	}
	if fresh < 2000 || ones < 2000 || longs < 500 {
		t.Error(fresh, ones, longs)
	}
}

// lawOfChain holds 22.4: it begins with the cell and ends with a ready one; each is stale, and used by the one ahead; none stands in it twice.
func lawOfChain(t *testing.T, x *tasks.Tasks, c api.Cell, l []api.Cell) {
	t.Helper()
	for i, link := range l {
		ready := i == len(l)-1
		if !x.Stale(link) || x.Ready(link) != ready || slices.Contains(l[:i], link) {
			t.Fatalf("%s of %s: stale %v, ready %v", names(link), names(l...), x.Stale(link), x.Ready(link))
		}
		if i > 0 && !slices.Contains(x.Users(link), l[i-1]) || i == 0 && link != c {
			t.Fatalf("%s stands in %s", names(link), names(l...))
		}
	}
}

func TestLawChainGoesOn(t *testing.T) { // Promises 22.1, 22.4, W3: whoever ticks the task of a chain's end comes to its beginning.
	r := rand.New(rand.NewSource(2204))
	for range 100 {
		x := opened(t)
		for range 12 {
			play(t, r, x)
		}
		for _, c := range universe() {
			for rounds := 0; x.Stale(c); rounds++ {
				l, why := Chain(x, c)
				if why != api.OK || rounds > 100000 {
					t.Fatal(names(c), why)
				}
				if steps, _ := x.Tick(l[len(l)-1].Sheet, 1+r.Intn(30)); steps == 0 {
					t.Fatalf("%s waits by %s, whose task has nothing to do", names(c), names(l...))
				}
			}
		}
	}
}

// diary gathers events of frames from their first steps on, trace by trace.
type diary struct {
	begun map[api.Cell][]api.Event // of frames that are under way
}

// take takes in a trace of tasks, and calls it with the events of each frame that has ended, all of them.
func (d diary) take(l []api.Event, it func([]api.Event)) {
	for _, piece := range Split(l...) {
		c := piece[0].Cell
		whole := append(d.begun[c], piece...)
		d.begun[c] = whole
		if whole[len(whole)-1].Wrote {
			delete(d.begun, c)
			it(whole)
		}
	}
}

// runsOfScripts calls it with the code and the events of each frame that has ended, of very many scripts.
func runsOfScripts(t *testing.T, seed int64, many int, it func(r *rand.Rand, x *tasks.Tasks, run []api.Event)) {
	t.Helper()
	r := rand.New(rand.NewSource(seed))
	for range many {
		x, d := opened(t), diary{map[api.Cell][]api.Event{}}
		for range 30 {
			if r.Intn(3) == 0 {
				if no := x.Edit(randomEdit(r)...); no.Code != api.OK {
					t.Fatal(no)
				}
				for _, c := range x.Aborted() {
					delete(d.begun, c)
				}
			}
			l := traced(t, x, r.Intn(3), r.Intn(40))
			d.take(l, func(run []api.Event) { it(r, x, run) })
		}
	}
}

func TestLawTraces(t *testing.T) { // Promise 22.5: what was traced of a frame from its first step to its last, in one trace or in several, edits between or not, is replayed with its cell's code, and comes to the cell's value.
	count, long := 0, 0
	runsOfScripts(t, 2205, 800, func(r *rand.Rand, x *tasks.Tasks, run []api.Event) {
		c := run[0].Cell
		replayed(t, x.Code(c), x.Value(c), run...)
		count++
		if len(run) > 20 {
			long++
		}
	})
	if count < 5000 || long < 150 {
		t.Error(count, long)
	}
}

func TestLawPieces(t *testing.T) { // Promises 22.3, 22.5: of one trace: the first piece goes on with the frame that was parked, or begins one; all others begin one; the last one alone may not have ended. Those that begin and end are replayed; no others are.
	r := rand.New(rand.NewSource(2206))
	whole, parts := 0, 0
	for range 1200 {
		x := opened(t)
		for range 15 {
			if no := x.Edit(randomEdit(r)...); no.Code != api.OK {
				t.Fatal(no)
			}
			task := r.Intn(3)
			x.Tick(task, r.Intn(9))
			_, under := x.Parked(task)
			pieces := Split(traced(t, x, task, r.Intn(60))...)
			for i, piece := range pieces {
				c, ended := piece[0].Cell, piece[len(piece)-1].Wrote
				if !ended && i < len(pieces)-1 {
					t.Fatal(pieces)
				}
				if ended && (i > 0 || !under) {
					whole++
					replayed(t, x.Code(c), x.Value(c), piece...)
					continue
				}
				parts++
				noReplay(t, "a part of a run", x.Code(c), piece...)
			}
		}
	}
	if whole < 2000 || parts < 1000 {
		t.Error(whole, parts)
	}
}

func TestLawLeftOut(t *testing.T) { // Promise 22.6: a run's events with one left out, or one twice, are no run's; nor with two changed about that are not one.
	count := 0
	runsOfScripts(t, 2207, 500, func(r *rand.Rand, x *tasks.Tasks, run []api.Event) {
		l := x.Code(run[0].Cell)
		for i := range run {
			count++
			noReplay(t, "one left out", l, left(run, i)...)
			noReplay(t, "one twice", l, twice(run, i)...)
			if i > 0 && run[i] != run[i-1] {
				other := slices.Clone(run)
				other[i], other[i-1] = run[i-1], run[i]
				noReplay(t, "two changed about", l, other...)
			}
		}
	})
	if count < 15000 {
		t.Error(count)
	}
}

// bend turns something in events.
func bend(r *rand.Rand, l []api.Event, other []api.Event) []api.Event {
	i := r.Intn(len(l))
	values := append(wrongs(), blank(), n(1), n(2), n(7), txt("x"), truth(true), truth(false), bad(api.FaultNA))
	some := func(x *api.Event) { x.V = values[r.Intn(len(values))] }
	switch r.Intn(12) {
	case 0:
		return bent(l, i, func(x *api.Event) { x.Cell = randomCell(r) })
	case 1:
		return bent(l, i, func(x *api.Event) { x.Reads = !x.Reads })
	case 2:
		return bent(l, i, func(x *api.Event) { x.Read = randomCell(r) })
	case 3:
		return bent(l, i, func(x *api.Event) { x.Wrote = !x.Wrote })
	case 4:
		return left(l, i)
	case 5:
		return twice(l, i)
	case 6:
		return slices.Insert(slices.Clone(l), i, other[r.Intn(len(other))])
	case 7:
		l = bent(l, len(l)-1, some)
		return bent(l, i, some)
	}
	return bent(l, i, some)
}

func TestLawBent(t *testing.T) { // Promise 22.2: events that are bent a little, once or more, are a run's just where the chapter's words say so.
	yes, no := 0, 0
	other := events(". A1=1 =1")
	runsOfScripts(t, 2208, 400, func(r *rand.Rand, x *tasks.Tasks, run []api.Event) {
		l := x.Code(run[0].Cell)
		for range 12 {
			events := bend(r, run, other)
			if r.Intn(3) == 0 && len(events) > 0 {
				events = bend(r, events, run)
			}
			got, ok := Replay(l, events...)
			want, is := replayOf(l, events)
			if got != want || ok != is {
				t.Fatalf("Replay(%v, %s): %v, %v, want %v, %v", l, shown(events), got, ok, want, is)
			}
			if ok {
				yes++
			} else {
				no++
			}
		}
		other = run
	})
	if yes < 300 || no < 20000 {
		t.Error(yes, no)
	}
}

func TestLawOtherCodes(t *testing.T) { // Promise 22.2: a run's events held against another formula's code: a run just where the chapter's words say so.
	yes, no := 0, 0
	codes := [][]api.Ins{flat(t, "A1")}
	runsOfScripts(t, 2209, 400, func(r *rand.Rand, x *tasks.Tasks, run []api.Event) {
		l := codes[r.Intn(len(codes))]
		got, ok := Replay(l, run...)
		want, is := replayOf(l, run)
		if got != want || ok != is {
			t.Fatalf("Replay(%v, %s): %v, %v, want %v, %v", l, shown(run), got, ok, want, is)
		}
		if ok {
			yes++
		} else {
			no++
		}
		codes = append(codes, x.Code(run[0].Cell))
	})
	if yes < 20 || no < 2000 {
		t.Error(yes, no)
	}
}
