package plan

import (
	"testing"

	"whittle/api"
	"whittle/view"
)

// bent is the view of a view's state that was bent.
func bent(t *testing.T, v *view.View, bend func(*api.State)) *view.View {
	t.Helper()
	s := v.State()
	bend(&s)
	return again(t, s)
}

// held is a cell's part of a state.
func held(s *api.State, name string) *api.Held {
	for i := range s.Cells {
		if s.Cells[i].Cell == at(name) {
			return &s.Cells[i]
		}
	}
	panic("no cell: " + name)
}

func TestForecastBeyondStates(t *testing.T) { // Promises 23.1, 17.7: also of a view whose numbers are above those that a state may say: its version, the steps of its frame.
	v := opened(t, "A1", "1", "B1", "=SUM(A1:A9)", "C1", "=B1", "T!A1", "=S!B1")
	ticked(t, v, 0, 5, 5)
	v = bent(t, v, func(s *api.State) {
		s.Version = api.MaxNum
		held(s, "A1").Version = api.MaxNum
		s.Frames[0].Frame.Steps = api.MaxNum
	})
	edited(t, v, "U!A1", "=1")
	ticked(t, v, 0, 2, 2)
	s := v.State()
	if s.Version != api.MaxNum+1 || s.Frames[0].Frame.Steps != api.MaxNum+2 {
		t.Fatal(s)
	}
	comes(t, v, ticks(0, 4, 1, 9, 0, 1, 2, 9, 1, 9, 0, 9), came(4, ""), came(0, ""), came(1, "B1"), came(2, "U!A1"), came(2, "T!A1"), came(2, "C1"))
}

func TestForecastOfBentValues(t *testing.T) { // Promise 23.1: a restored state's fresh formulas tell what the state says, whatever they come to: ticks read that, and so do forecasts.
	v := opened(t, "A1", "=0", "B1", "=IF(A1,SUM(C1:C9),0)", "T!A1", "=S!B1")
	ticked(t, v, 0, 2, 2)
	v = bent(t, v, func(s *api.State) { held(s, "A1").V = n(1) })
	comes(t, v, ticks(0, 99, 1, 99), came(15, "B1"), came(2, "T!A1"))
}

func TestForecastOfBentFrames(t *testing.T) { // Promise 23.1: a restored frame goes on from where its state says, whatever a run would have come to there.
	v := opened(t, "A1", "1", "B1", "=IF(A1,SUM(C1:C9),0)", "D1", "=IF(B1>5,1,ROWS(A1:A2)+1)", "T!A1", "=COUNT(S!A1:A9)")
	ticked(t, v, 0, 1, 1)
	ticked(t, v, 1, 5, 5)
	v = bent(t, v, func(s *api.State) {
		s.Frames[0].Frame.Stack[0] = txt("x")
		s.Frames[0].Frame.Steps = 900
		s.Frames[1].Frame.Scans = 8
	})
	comes(t, v, ticks(1, 99, 0, 99), came(3, "T!A1"), came(7, "B1 D1"))
}

func TestForecastBehindDones(t *testing.T) { // Promises 23.1, 15.4, 16.5: what others have made fresh is told as it was told, and is waited for no more.
	v := opened(t, "A1", "=7", "B1", "=IF(A1,SUM(C1:C9),0)", "T!A1", "=S!A1+S!B1", "T!B1", "=S!B1")
	done(t, v, "A1")
	comes(t, v, ticks(0, 1, 1, 9, 0, 99, 1, 99), came(1, ""), came(0, ""), came(3, "B1"), came(6, "T!A1 T!B1"))
	edited(t, v, "A1", "=0")
	done(t, v, "A1 B1 T!B1")
	comes(t, v, ticks(0, 9, 1, 9), came(0, ""), came(4, "T!A1"))
}

func TestForecastBehindDonesOfParked(t *testing.T) { // Promises 23.1, 16.6: a frame whose cell others have made fresh goes on, and writes; those that read the cell ahead of that read what it told.
	open := []string{"A1", "=7", "B1", "=IF(A1,SUM(C1:C9),0)", "D1", "=A1", "E1", "=1", "T!A1", "=IF(S!A1,SUM(S!C1:C9),0)"}
	v := opened(t, open...)
	ticked(t, v, 0, 1, 1)
	done(t, v, "A1")
	comes(t, v, ticks(1, 99, 0, 1, 0, 99), came(4, "T!A1"), came(1, "A1"), came(19, "E1 B1 D1"))
	v = opened(t, open...)
	ticked(t, v, 0, 1, 1)
	done(t, v, "A1")
	comes(t, v, ticks(1, 1, 0, 1, 1, 99, 0, 99), came(1, ""), came(1, "A1"), came(3, "T!A1"), came(19, "E1 B1 D1"))
	v = opened(t, open...)
	ticked(t, v, 0, 1, 1)
	done(t, v, "A1")
	comes(t, v, ticks(0, 1, 1, 99, 0, 99), came(1, "A1"), came(15, "T!A1"), came(19, "E1 B1 D1"))
}

func TestWorkBehindDones(t *testing.T) { // Promises 23.2, 23.3: all that is stale, less what parked frames have done, whosever they are; of rows just of their own cells.
	v := opened(t, "A1", "=SUM(C1:C9)", "B1", "=A1", "T!A1", "=1+2")
	ticked(t, v, 0, 5, 5)
	ticked(t, v, 1, 1, 1)
	costs(t, v, 7+2+3, 9)
	done(t, v, "A1")
	costs(t, v, 2+4-5-1, 3)
	ticked(t, v, 0, 7, 7)
	costs(t, v, 2+3, 3)
	done(t, v, "B1")
	costs(t, v, 3, 3)
	done(t, v, "T!A1")
	costs(t, v, -1, 0)
	ticked(t, v, 1, 9, 3)
	costs(t, v, 0, 0)
}

func TestCostsOfBentStates(t *testing.T) { // Promises 23.2, 23.3, R6: costs are those of the contents, whatever a restored state says that cells tell; its frames may have done more steps than there are.
	v := opened(t, "A1", "=0", "B1", "=IF(A1,SUM(C1:C9),0)", "D1", "=B1+1", "E1", "=D1")
	ticked(t, v, 0, 3, 3)
	v = bent(t, v, func(s *api.State) {
		held(s, "A1").V = n(1)
		s.Frames[0].Frame.Steps = 100
	})
	costs(t, v, 4+4+2-100, 6) // D1, E1 without B1
	v = bent(t, v, func(s *api.State) { s.Frames[0].Frame.Steps = api.MaxNum })
	costs(t, v, 10-api.MaxNum, 6)
	alone := opened(t, "A1", "=7+7")
	ticked(t, alone, 0, 1, 1)
	alone = bent(t, alone, func(s *api.State) { s.Frames[0].Frame.Steps = 9 })
	costs(t, alone, -5, -5)
}

func TestEditsPastTheView(t *testing.T) { // R1, R7: behind edits of an inner layer nothing is promised but that calls end.
	inner := []func(v *view.View, l ...api.Change) api.Refusal{
		func(v *view.View, l ...api.Change) api.Refusal { return v.Tasks.Edit(l...) },
		func(v *view.View, l ...api.Change) api.Refusal { return v.Marks.Edit(l...) },
		func(v *view.View, l ...api.Change) api.Refusal { return v.Graph.Edit(l...) },
		func(v *view.View, l ...api.Change) api.Refusal { return v.Book.Edit(l...) },
	}
	for _, edit := range inner {
		for _, l := range [][]string{
			{"B1", "=C1"}, {"A1", "=C1"}, {"A1", "", "B1", "", "C1", ""}, {"A1", "7", "B1", "x"}, {"C1", "=SUM(A1:D9)"}, {"B1", "=SUM(A1:A9,C1)", "C1", "=B1"}, {"T!A1", "=S!C1+S!Z9", "A2", "=A3", "A3", "=A2"},
		} {
			v := opened(t, "A1", "=SUM(E1:E9)", "B1", "=A1", "C1", "=B1", "T!A1", "=S!C1", "U!A1", "=SUM(S!E1:E9)")
			ticked(t, v, 0, 5, 5)
			ticked(t, v, 2, 5, 5)
			edit(v, puts(l...)...)
			for range 3 {
				if got := Forecast(v, ticks(0, most, 1, most, 2, most, 0, most, 1, most)...); len(got) != 5 {
					t.Error(got)
				}
				Work(v)
				Longest(v)
				for task := range 3 {
					v.Tick(task, 2)
				}
			}
		}
	}
}
