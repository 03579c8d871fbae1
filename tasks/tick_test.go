package tasks

import (
	"fmt"
	"testing"

	"whittle/api"
	"whittle/plain"
)

func TestTickRefused(t *testing.T) { // Promises 16.6, 16.7, R2, R5: ErrTask ahead of ErrBudget; no step is done, no event told.
	const least, most = -1 << 63, 1<<63 - 1
	x := midway(t)
	for _, task := range oddTasks() {
		for _, budget := range []int{least, -1, 0, 1, api.MaxTrace, api.MaxTrace + 1, most} {
			tickRefused(t, x, task, budget, api.ErrTask)
		}
	}
	for task := range 3 {
		for _, budget := range []int{least, -api.MaxTrace, -1} {
			tickRefused(t, x, task, budget, api.ErrBudget)
		}
	}
}

func TestTickOfNothing(t *testing.T) { // Promises 16.6, 16.10: a budget of 0 begins nothing, and does no step of a frame; a task without anything to do answers 0.
	x := opened(t, "A1", "=1+T!A1", "T!A1", "=U!A1", "U!A1", "=2")
	for range 3 {
		ticked(t, x, 2, 0, 0)
		parkedIs(t, x, 2, "", 0)
		ticked(t, x, 0, 1<<62, 0) // A1 waits
		parkedIs(t, x, 0, "", 0)
	}
	ticked(t, x, 2, 1, 1)
	ticked(t, x, 2, 0, 0)
	parkedIs(t, x, 2, "U!A1", 1)
	settle(t, x)
	for task := range 3 {
		ticked(t, x, task, 1<<62, 0)
	}
}

func TestTickBudgets(t *testing.T) { // Promises 16.6, 16.10: fewer steps than a formula costs, just as many, one more, many formulas' worth, all there is.
	ways := []string{"A1", "2", "B1", "=A1+3", "C1", "=B1*B1", "A2", "=SUM(A1:C1)", "B2", "=A2", "T!A1", "=S!B2"} // costs 4, 4, 6, 2 and 2
	for budget := range 20 {
		x := opened(t, ways...)
		ticked(t, x, 0, budget, min(budget, 16))
		stale, steps := 5, budget
		for _, cost := range []int{4, 4, 6, 2} {
			if steps >= cost {
				stale, steps = stale-1, steps-cost
				continue
			}
			break
		}
		if x.Count() != stale {
			t.Errorf("behind %d steps %d are stale, want %d", budget, x.Count(), stale)
		}
		if p, ok := x.Parked(0); budget < 16 && (ok != (steps > 0) || p.Steps != steps) || budget >= 16 && ok {
			t.Errorf("behind %d steps %v is parked, want %d steps", budget, p, steps)
		}
		ticked(t, x, 0, 1<<63-1, max(0, 16-budget))
		valueIs(t, x, "B2", n(2+5+25))
		ticked(t, x, 1, 1<<63-1, 2)
		valueIs(t, x, "T!A1", n(32))
	}
}

func TestTickBecomesReady(t *testing.T) { // Promise 16.6: cells that become ready by the tick itself come in it, by their levels, ahead of others that were ready; those that become so by another task's tick behind that.
	x := opened(t, "A1", "=1", "B1", "=A1", "C1", "=B1", "A2", "=T!B1", "T!B1", "=S!C1", "T!C1", "=S!A2+T!B1")
	ticked(t, x, 1, 99, 0)
	ticked(t, x, 0, 99, 6)
	staleAre(t, x, "A2 T!B1 T!C1", "T!B1")
	ticked(t, x, 0, 99, 0)
	ticked(t, x, 1, 99, 2)
	staleAre(t, x, "A2 T!C1", "A2")
	ticked(t, x, 1, 99, 0)
	ticked(t, x, 0, 99, 2)
	ticked(t, x, 1, 99, 4)
	staleAre(t, x, "", "")
	valueIs(t, x, "T!C1", n(2))
	x = settled(t, "Z1", "=1", "Z2", "=Z1", "Z3", "=Z2")
	edited(t, x, "A1", "=1", "B1", "=A1", "C1", "=Z3") // C1 is ready, on level 4; B1 is not, on level 2
	wroteIs(t, x, 0, "A1 B1 C1")
}

func TestTickTurnsNothingElse(t *testing.T) { // Promise 16.10, W6: a tick turns stale cells fresh, and nothing else: not contents, Last, Aborted, viewports, nor another task's frame.
	x := midway(t)
	for x.Count() > 0 {
		for task := range 3 {
			aborted, last, version := names(x.Aborted()...), fmt.Sprint(x.Last()), x.Version()
			stale, values := map[api.Cell]int{}, map[api.Cell]api.Value{}
			for _, c := range universe() {
				values[c] = x.Value(c)
				if x.Stale(c) {
					stale[c] = 1
				}
			}
			var flights []api.Flight
			var views [][]api.Area
			for other := range 3 {
				flights, views = append(flights, x.Flight(other)), append(views, x.Areas(other))
			}
			x.Tick(task, 2)
			if names(x.Aborted()...) != aborted || fmt.Sprint(x.Last()) != last || x.Version() != version {
				t.Fatal("a tick turns what edits did")
			}
			for other := range 3 {
				if other != task && !sameFlight(x.Flight(other), flights[other]) || fmt.Sprint(x.Areas(other)) != fmt.Sprint(views[other]) {
					t.Fatalf("a tick of %d turns something of %d", task, other)
				}
			}
			for _, c := range universe() {
				if x.Stale(c) && stale[c] == 0 || x.Value(c) != values[c] && (x.Stale(c) || stale[c] == 0 || c.Sheet != task) {
					t.Fatalf("a tick of %d: %s tells %v, ahead %v", task, names(c), x.Value(c), values[c])
				}
			}
		}
	}
}

// costly are formulas of all kinds, over A1 3, A2 x, A3 TRUE, B1 #N/A, B3 2.
func costly() []string {
	return []string{
		"=1", "=A1", "=A1+2", "=-A1%", "=A1&A2", "=1/0", "=B1+1", "=SUM(A1:A9)", "=SUM(A1:B3)", "=SUM(1,A1,A1:A3,2)", "=COUNTA(A1:C30)", "=AND(A3:A3,FALSE,A1:A9)", "=OR(A1:A9)", "=FIRST(A1:B3)", "=LAST(A1:A3)", "=MIN(A1:A3,B3:B9)",
		"=MATCH(2,B1:B9)", "=MATCH(9,A1:A9)", "=COUNTIF(A1:B3,2)", "=SUMIF(A1:A3,3,B1:B3)", "=SUMIF(A1:A3,3)", "=LOOKUP(3,A1:A3,B1:B3)", "=SUMPRODUCT(A1:A3,B1:B3)", "=SUMPRODUCT(A1:A3,A1:A3)", "=INDEX(A1:B3,2)", "=INDEX(A1:B3,3,2)", "=INDEX(A1:B3,9)",
		"=IF(A3,1,2)", "=IF(A1>5,SUM(A1:A9),B3)", "=IF(A2,1,2)", "=IF(FALSE,1)", "=IFERROR(B1,7)", "=IFERROR(A1,SUM(A1:A9))", "=CHOOSE(A1,1,2,SUM(A1:A3))", "=CHOOSE(B3,1,A1,3)", "=CHOOSE(9,1,2)", "=CHOOSE(A2,1)", "=ROWS(A1:B9)*COLUMNS(A1:B9)", "=LEN(A2)+ROUND(A1/7,2)", "=SUM(SUM(A1:A3),COUNT(B1:B3))",
	}
}

func TestTickSteps(t *testing.T) { // Promises 16.6, 16.10, 16.12: the steps that a frame does from its beginning to its end are its cell's Cost, its value the model's, in whatever slices; a frame that has done fewer is parked.
	for _, text := range costly() {
		for slice := 1; slice < 8; slice++ {
			x := opened(t, "A1", "3", "A2", "x", "A3", "TRUE", "B1", "#N/A", "B3", "2")
			edited(t, x, "U!A1", sheeted(text))
			p := plain.Of(x.Graph)
			c := at("U!A1")
			steps := 0
			for x.Stale(c) {
				k, why := x.Tick(2, slice)
				steps += k
				if k < 1 || why != api.OK || k < slice && x.Stale(c) {
					t.Fatalf("%s: Tick: %d, %d", text, k, why)
				}
				if x.Stale(c) {
					parkedIs(t, x, 2, "U!A1", steps)
				}
			}
			if steps != p.Cost(c) || x.Value(c) != p.Value(c) {
				t.Errorf("%s: %v in %d steps, want %v in %d", text, x.Value(c), steps, p.Value(c), p.Cost(c))
			}
		}
	}
}

// sheeted is a formula whose cells and areas are those of S, so that it may stand on another sheet.
func sheeted(text string) string {
	out, word := "", false
	for i, r := range text {
		letter := r >= 'A' && r <= 'Z'
		begins := letter && !word && i+1 < len(text) && text[i+1] >= '0' && text[i+1] <= '9' && text[i-1] != ':'
		if begins {
			out += "S!"
		}
		out += string(r)
		word = letter
	}
	return out
}

func TestTickSplit(t *testing.T) { // Promise 16.12: of 16 steps, over several formulas, every way to part them in two and three.
	ways := []string{"A1", "2", "B1", "=A1+3", "C1", "=B1*B1", "A2", "=SUM(A1:C1)", "B2", "=A2"}
	for i := range 18 {
		for k := range 18 - i {
			one, two, three := opened(t, ways...), opened(t, ways...), opened(t, ways...)
			ticked(t, one, 0, i+k, min(16, i+k))
			ticked(t, two, 0, i, min(16, i))
			ticked(t, two, 0, k, min(k, max(0, 16-i)))
			half := k / 2
			three.Tick(0, i)
			three.Tick(0, half)
			three.Tick(0, k-half)
			if tellsFrames(one) != tellsFrames(two) || tellsFrames(one) != tellsFrames(three) || tellsMarks(one) != tellsMarks(two) {
				t.Errorf("%d and %d steps", i, k)
			}
		}
	}
}
