package plan

import (
	"slices"
	"testing"

	"whittle/api"
)

func TestTicksHandedIn(t *testing.T) { // R3: ticks are not changed, spare room included, and not kept.
	v := opened(t, "A1", "=1", "B1", "=A1", "T!A1", "=S!B1")
	short, whole := roomy(ticks(0, 3, 7, 1, 0, 9, 1, -1, 1, 9), api.Tick{Task: 77, Budget: 88}, api.Tick{Task: 1, Budget: 99})
	was := slices.Clone(whole)
	got := Forecast(v, short...)
	if !slices.Equal(whole, was) {
		t.Errorf("%v, handed in as %v", whole, was)
	}
	want := []api.Outcome{came(3, "A1"), refused(api.ErrTask), came(1, "B1"), refused(api.ErrBudget), came(2, "T!A1")}
	fill(whole, api.Tick{Task: 5, Budget: 5})
	if !slices.EqualFunc(got, want, sameOutcome) {
		t.Error(shown(got))
	}
	foretold(t, v, was[:len(short)], want...)
}

func TestOutcomesAreNewMemory(t *testing.T) { // R3: outcomes may be written over and grown, spare room too, with no change of one another, of the view or of what is told later.
	v := opened(t, "A1", "=1", "B1", "=A1", "C1", "=B1", "D1", "=SUM(A1:A9)", "T!A1", "=S!A1", "T!B1", "=A1")
	ticked(t, v, 0, 5, 5)
	seen(t, v, 1, "T!A1:B9")
	was := tells(v)
	l := ticks(0, 1, 0, 9, 1, 2, 1, 9, 0, 99)
	one, two := Forecast(v, l...), Forecast(v, l...)
	over := at("Z99")
	for i := range one {
		fill(one[i].Done, over)
		one[i].Done = append(one[i].Done, over, over, over)
		for k := i + 1; k < len(one); k++ {
			if !sameOutcome(one[k], two[k]) {
				t.Fatal(i, k, one[k])
			}
		}
	}
	one = append(one[:0], api.Outcome{Steps: 77})
	fill(one, api.Outcome{Steps: 99})
	if tells(v) != was {
		t.Error(tells(v), was)
	}
	comes(t, v, l, two...)
}

func TestForecastsApart(t *testing.T) { // R4: a view told of does not hang on what another one has been through, nor on forecasts ahead.
	open := []string{"A1", "3", "B1", "=SUM(A1:A9)", "C1", "=B1"}
	one, two := opened(t, open...), opened(t, open...)
	ticked(t, one, 0, 5, 5)
	for range 3 {
		foretold(t, one, ticks(0, 8), came(8, "B1"))
		foretold(t, two, ticks(0, 8), came(8, ""))
		costs(t, one, 9, 9)
		costs(t, two, 14, 14)
	}
}
