package plan

import (
	"slices"
	"testing"

	"whittle/api"
)

const (
	least = -1 << 63
	most  = 1<<63 - 1
)

func TestForecastOfNoTicks(t *testing.T) { // Promise 23.1: of no ticks nothing is told.
	v := opened(t)
	foretold(t, v, nil)
	foretold(t, v, []api.Tick{})
	edited(t, v, "A1", "=1")
	foretold(t, v, nil)
}

func TestForecastOfNothingToDo(t *testing.T) { // Promises 23.1, 16.6: nothing is stale, or nothing of the task's; no step, no error.
	v := opened(t)
	comes(t, v, ticks(0, 9, 1, most, 2, 0), came(0, ""), came(0, ""), came(0, ""))
	edited(t, v, "A1", "5", "B1", "=C1", "C1", "=B1", "T!A1", "=1")
	comes(t, v, ticks(0, 9, 2, 9), came(0, ""), came(0, ""))
}

func TestForecastRefused(t *testing.T) { // Promises 23.1, 16.6, R2, R5, R6: of a task that there is not; of a budget below 0; the task ahead. All else is told as if the refused one were not there.
	v := opened(t, "A1", "=1", "B1", "=A1")
	for _, task := range []int{3, -1, 16, least, most} {
		for _, budget := range []int{0, 1, -1, least, most} {
			comes(t, v, ticks(task, budget), refused(api.ErrTask))
		}
	}
	for _, budget := range []int{-1, -9, least} {
		for task := range 3 {
			comes(t, v, ticks(task, budget), refused(api.ErrBudget))
		}
	}
	foretold(t, v, ticks(3, 1, 0, 1, 0, -1, 0, 2, -1, -1, 0, 1), refused(api.ErrTask), came(1, ""), refused(api.ErrBudget), came(2, "A1"), refused(api.ErrTask), came(1, "B1"))
	for _, x := range Forecast(v, ticks(3, 1, 0, -1)...) {
		if len(x.Done) != 0 || x.Steps != 0 {
			t.Error(x)
		}
	}
}

func TestForecastByBudgets(t *testing.T) { // Promises 23.1, 16.12: steps one by one, none, in two pieces, more than there are: B1 takes 4, C1 12.
	open := []string{"A1", "2", "B1", "=A1+3", "C1", "=SUM(A1:A9)"}
	for one := range 20 {
		v := opened(t, open...)
		want := []api.Outcome{came(min(one, 16), ""), came(0, ""), came(max(16-one, 0), "")}
		switch {
		case one >= 16:
			want[0].Done = list("B1 C1")
		case one >= 4:
			want[0].Done, want[2].Done = list("B1"), list("C1")
		default:
			want[2].Done = list("B1 C1")
		}
		comes(t, v, ticks(0, one, 0, 0, 0, 99), want...)
	}
	v := opened(t, open...)
	for i := range 16 {
		want := came(1, "")
		switch i {
		case 3:
			want.Done = list("B1")
		case 15:
			want.Done = list("C1")
		}
		comes(t, v, ticks(0, 1), want)
	}
	comes(t, v, ticks(0, 1), came(0, ""))
}

func TestForecastGreatBudgets(t *testing.T) { // Promise 23.1, R6: budgets that no int is above.
	v := opened(t, "A1", "=1", "B1", "=A1", "T!A1", "=S!B1")
	comes(t, v, ticks(0, most, 0, most, 1, most, 1, most), came(4, "A1 B1"), came(0, ""), came(2, "T!A1"), came(0, ""))
}

func TestForecastInOrder(t *testing.T) { // Promises 23.1, 16.5: cells by levels, then in the order of cells; those that become ready meanwhile, too.
	v := opened(t, "D4", "=1", "C4", "=D4", "A1", "=C4", "B1", "=D4", "A9", "=1", "IV1", "=1")
	comes(t, v, ticks(0, 99), came(12, "IV1 D4 A9 B1 C4 A1"))
	edited(t, v, "C1", "=D1", "D1", "=1", "A2", "=1", "E1", "=D1")
	comes(t, v, ticks(0, 4, 0, 99), came(4, "D1 A2"), came(4, "C1 E1"))
	edited(t, v, "B2", "=1+1", "A1", "=B2+C2", "C2", "=B2", "A3", "=1")
	comes(t, v, ticks(0, 3, 0, 7, 0, 9), came(3, ""), came(7, "B2 A3 C2"), came(2, "A1"))
}

func TestForecastSeen(t *testing.T) { // Promises 23.1, 16.5: what is seen goes ahead, also of what becomes ready meanwhile, but not ahead of a frame under way.
	v := opened(t, "A1", "=1", "B1", "=1", "C1", "=1", "D1", "=B1", "T!A1", "=1", "T!B1", "=1")
	seen(t, v, 0, "C1:D9", "D1:D1")
	seen(t, v, 1, "T!B1")
	foretold(t, v, ticks(0, 99), came(8, "C1 A1 B1 D1"))
	foretold(t, v, ticks(1, 99), came(4, "T!B1 T!A1"))
	ticked(t, v, 0, 3, 3) // C1, and A1's first step
	foretold(t, v, ticks(0, 99), came(5, "A1 B1 D1"))
	edited(t, v, "E1", "=1", "D2", "=1", "D3", "=B1")
	foretold(t, v, ticks(0, 99), came(11, "A1 D2 B1 D1 D3 E1"))
	seen(t, v, 0, "E1")
	foretold(t, v, ticks(0, 99), came(11, "A1 E1 B1 D2 D1 D3"))
	seen(t, v, 0)
	comes(t, v, ticks(0, 99, 1, 99), came(11, "A1 B1 E1 D2 D1 D3"), came(4, "T!B1 T!A1"))
}

func TestForecastAcrossTasks(t *testing.T) { // Promise 23.1: what a tick writes makes cells of other tasks ready, for the ticks behind it alone.
	v := opened(t, "A1", "=1", "T!A1", "=S!A1", "U!A1", "=T!A1+S!A1", "B1", "=U!A1", "T!B1", "=SUM(S!A1:B1)")
	foretold(t, v, ticks(1, 9, 0, 1, 1, 9, 0, 1, 1, 9, 2, 2, 0, 9, 2, 9, 0, 9, 1, 9),
		came(0, ""), came(1, ""), came(0, ""), came(1, "A1"), came(2, "T!A1"), came(2, ""), came(0, ""), came(2, "U!A1"), came(2, "B1"), came(5, "T!B1"))
	comes(t, v, ticks(2, 9, 1, 9, 0, 9, 2, 9, 1, 1, 2, 9, 1, 9, 2, 3, 1, 9, 2, 9, 1, 9, 0, 9, 1, 9),
		came(0, ""), came(0, ""), came(2, "A1"), came(0, ""), came(1, ""), came(0, ""), came(1, "T!A1"), came(3, ""), came(0, ""), came(1, "U!A1"), came(0, ""), came(2, "B1"), came(5, "T!B1"))
}

func TestForecastOfParked(t *testing.T) { // Promise 23.1: frames under way go on from where they stand, each in its task, again and again.
	v := opened(t, "A1", "7", "A9", "=SUM(A1:A5)", "T!A1", "=IF(S!A1>5,S!A1*2,0)", "U!A1", "=MATCH(7,S!A1:A5)&SUM(1,S!A1)", "U!B1", "=T!A1")
	ticked(t, v, 0, 4, 4)
	ticked(t, v, 1, 5, 5)
	ticked(t, v, 2, 3, 3)
	l := ticks(0, 1, 1, 1, 2, 1, 0, 2, 1, 1, 2, 2, 0, 2, 1, 9, 2, 99)
	want := []api.Outcome{came(1, ""), came(1, ""), came(1, ""), came(2, ""), came(1, ""), came(2, ""), came(1, "A9"), came(2, "T!A1"), came(9, "U!A1 U!B1")}
	foretold(t, v, l, want...)
	foretold(t, v, l, want...)
	foretold(t, v, slices.Concat(l, l)[:10], append(slices.Clone(want), came(0, ""))...)
	comes(t, v, l, want...)
}

func TestForecastReads(t *testing.T) { // Promise 23.1: a frame reads what those ahead of it have written, not what the view tells: the steps hang on it.
	for a1, steps := range map[string]int{"=1": 17, "=0": 6, "=\"x\"": 5, "=1/0": 7} {
		v := opened(t, "A1", "=0", "B1", "=IF(A1,SUM(C1:C9),0)")
		settle(t, v)
		edited(t, v, "A1", a1)
		comes(t, v, ticks(0, 99), came(steps, "A1 B1"))
	}
}
