package plan

import (
	"math/rand"
	"slices"
	"testing"

	"whittle/api"
	"whittle/place"
	"whittle/view"
)

// universe are the cells that scripts edit.
func universe() []api.Cell {
	return list("A1 B1 C1 IV1 A2 B2 C2 A3 B3 IV65536 T!A1 T!B1 T!A2 T!B2 T!IV65536 U!A1 U!B2")
}

func randomCell(r *rand.Rand) api.Cell {
	l := universe()
	return l[r.Intn(len(l))]
}

// named is a cell as a formula of any sheet names it.
func named(c api.Cell) string { return []string{"S!", "T!", "U!"}[c.Sheet] + place.Name(c) }

// randomPart is a formula over cells of the universe.
func randomPart(r *rand.Rand) string {
	a, b := named(randomCell(r)), named(randomCell(r))
	wide := []string{"A1:B2", "T!A1:B2", "S!A1:C1", "S!B1:B30", "T!A2:D12", "U!A1:F9", "A2:C2", "B2:D12", "U!B2:B2", "S!A3:B3", "S!IV65530:IV65536"}
	over := wide[r.Intn(len(wide))]
	return []string{
		"SUM(" + over + ",1)", "IF(" + a + ",1," + b + ")", "COUNTIF(" + over + "," + a + ")", "ROWS(" + over + ")",
		"INDEX(" + over + "," + a + ")", "SUMIF(" + over + "," + a + ")", "IFERROR(" + a + "," + b + ")", "CHOOSE(" + a + "," + b + ",7,SUM(" + over + "))",
		"SUMPRODUCT(A1:B2,T!A1:B2)", "LOOKUP(" + a + ",U!A1:A2,S!B1:B2)", "AND(" + a + "," + over + ")", "MATCH(" + a + "," + over + ")",
		"7", "7", a, a, a + "&" + b, "-" + a, a + "+" + b,
	}[r.Intn(19)]
}

// randomText is contents of any kind, formulas most of all.
func randomText(r *rand.Rand) string {
	switch r.Intn(6) {
	case 0:
		return ""
	case 1:
		return []string{"1", "2", "5", "x", "'=A1", "TRUE", "#N/A"}[r.Intn(7)]
	}
	s := "=" + randomPart(r)
	for r.Intn(4) == 0 {
		s += "+" + randomPart(r)
	}
	return s
}

// randomEdit is changes of cells of the universe, each once; some are refused.
func randomEdit(r *rand.Rand) []api.Change {
	l := universe()
	r.Shuffle(len(l), func(i, k int) { l[i], l[k] = l[k], l[i] })
	var changes []api.Change
	for _, c := range l[:1+r.Intn(5)] {
		changes = append(changes, api.Change{Cell: c, Text: randomText(r)})
	}
	if r.Intn(20) == 0 {
		changes = append(changes, changes[0])
	}
	return changes
}

// randomAreas are what somebody may look at.
func randomAreas(r *rand.Rand, sheet int) []api.Area {
	var l []api.Area
	for range r.Intn(4) {
		a := api.Area{Sheet: sheet, Top: r.Intn(3), Left: r.Intn(3)}
		a.Bottom, a.Right = a.Top+r.Intn(2), a.Left+r.Intn(3)
		l = append(l, a)
	}
	return l
}

// randomTicks are some; a few of them are refused.
func randomTicks(r *rand.Rand) []api.Tick {
	var l []api.Tick
	for range r.Intn(9) {
		x := api.Tick{Task: r.Intn(3), Budget: r.Intn(9)}
		switch r.Intn(12) {
		case 0:
			x.Task = []int{-1, 3, most}[r.Intn(3)]
		case 1:
			x.Budget = []int{-1, least, most, 1000}[r.Intn(4)]
		case 2, 3:
			x.Budget = r.Intn(80)
		}
		l = append(l, x)
	}
	return l
}

// play does one thing with a view: an edit, a viewport, a tick of few steps.
func play(r *rand.Rand, v *view.View) {
	task := r.Intn(3)
	switch r.Intn(9) {
	case 0, 1, 2:
		v.Edit(randomEdit(r)...)
	case 3:
		v.See(task, randomAreas(r, task)...)
	default:
		v.Tick(task, r.Intn(9))
	}
}

func TestLawForetold(t *testing.T) { // Promises 23.1, 23.4, W11: at any moment of scripts; what is foretold is what a view of the same state comes to, and then this one.
	r := rand.New(rand.NewSource(2301))
	parked, wrote, over, bad := 0, 0, 0, 0
	for range 500 {
		v := opened(t)
		for range 30 {
			play(r, v)
			for task := range 3 {
				if _, on := v.Parked(task); on {
					parked++
				}
			}
			l := randomTicks(r)
			want := did(again(t, v.State()), l)
			if r.Intn(6) > 0 {
				foretold(t, v, l, want...)
			} else {
				comes(t, v, l, want...)
			}
			if t.Failed() {
				t.Fatal(v.State())
			}
			for _, x := range want {
				wrote += len(x.Done)
				if len(x.Done) > 1 {
					over++
				}
				if x.Code != api.OK {
					bad++
				}
			}
		}
	}
	if parked < 2000 || wrote < 5000 || over < 800 || bad < 1000 {
		t.Error(parked, wrote, over, bad)
	}
}

func TestLawForetoldBehindDones(t *testing.T) { // Promises 23.4, 15.4: also if others make cells fresh, such too as have frames.
	r := rand.New(rand.NewSource(2302))
	parked := 0
	for range 500 {
		v := opened(t)
		for range 30 {
			play(r, v)
			if l := v.ReadyOf(r.Intn(3)); len(l) > 0 && r.Intn(3) == 0 {
				c := l[r.Intn(len(l))]
				if p, on := v.Parked(c.Sheet); on && p.Cell == c {
					parked++
				}
				v.Done(c)
			}
			l := randomTicks(r)
			l = l[:min(len(l), 2)]
			if told, came := Forecast(v, l...), did(v, l); !slices.EqualFunc(told, came, sameOutcome) {
				t.Fatalf("Forecast(%v): %s, and then %s", l, shown(told), shown(came))
			}
		}
	}
	if parked < 150 {
		t.Error(parked)
	}
}

func TestLawWork(t *testing.T) { // Promises 23.2, 23.3, 23.5, W3: of the steps that are done from there on, whatever is ticked; Longest of rows of users.
	r := rand.New(rand.NewSource(2303))
	idle, apart, one := 0, 0, 0
	for range 400 {
		v := opened(t)
		for range 20 {
			play(r, v)
			steps := stepsOf(t, again(t, v.State()), r.Intn(100))
			work, longest, sum := Work(v), Longest(v), 0
			for c, n := range steps {
				sum += n
				if longest < n {
					t.Fatalf("Longest %d, and %s takes %d", longest, names(c), n)
				}
			}
			if want := rows(v, steps); work != sum || longest != want || longest > work || v.Idle() != (work == 0) {
				t.Fatalf("Work %d, Longest %d, want %d, %d: %v", work, longest, sum, want, v.State())
			}
			switch {
			case work == 0:
				idle++
			case longest < work:
				apart++
			default:
				one++
			}
		}
	}
	if idle < 300 || apart < 1000 || one < 300 {
		t.Error(idle, apart, one)
	}
}

func TestLawTicked(t *testing.T) { // Promise 23.5, W3: a tick that answers n makes Work less by n; reads, viewports and refused edits turn nothing of it.
	r := rand.New(rand.NewSource(2304))
	for range 300 {
		v := opened(t)
		for range 4 {
			v.Edit(randomEdit(r)...)
		}
		for work, rounds := Work(v), 0; !v.Idle(); rounds++ {
			task := r.Intn(3)
			steps, why := v.Tick(task, r.Intn(12))
			if now := Work(v); why != api.OK || now != work-steps || rounds > 1000000 {
				t.Fatalf("Work %d behind a tick of %d steps, and %d ahead", now, steps, work)
			}
			work -= steps
			v.See(task, randomAreas(r, task)...)
			v.Window(task)
			v.Read(randomCell(r))
			v.Edit(api.Change{Cell: randomCell(r), Text: "=1+"})
			v.Edit()
			if now := Work(v); now != work {
				t.Fatalf("Work %d, %d ahead", now, work)
			}
		}
		if Work(v) != 0 || Longest(v) != 0 {
			t.Fatal(Work(v), Longest(v))
		}
	}
}

func TestLawOneRow(t *testing.T) { // Promise 23.5: Longest is Work where the stale cells are one row of cells each of which uses the one ahead of it, whatever else they use.
	r := rand.New(rand.NewSource(2305))
	for range 200 {
		l := universe()
		r.Shuffle(len(l), func(i, k int) { l[i], l[k] = l[k], l[i] })
		l = l[:1+r.Intn(len(l))]
		v := opened(t)
		for i, c := range l {
			text := "=7"
			if i > 0 {
				text = "=" + named(l[i-1]) + "+" + named(l[r.Intn(i)])
			}
			if no := v.Edit(api.Change{Cell: c, Text: text}); no.Code != api.OK {
				t.Fatal(no)
			}
		}
		for !v.Idle() {
			if w := Work(v); Longest(v) != w {
				t.Fatalf("Work %d, Longest %d: %v", w, Longest(v), v.State())
			}
			v.Tick(r.Intn(3), r.Intn(4))
		}
	}
}
