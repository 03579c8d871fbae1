package plan

import (
	"testing"

	"whittle/api"
	"whittle/view"
)

// example is the view of the chapter's table.
func example(t *testing.T) *view.View {
	t.Helper()
	v, why := view.New("S", "T")
	if v == nil || why != api.OK {
		t.Fatalf("New: %d", why)
	}
	edited(t, v, "A1", "1", "B1", "=A1", "C1", "=B1+1", "T!A1", "=SUM(S!A1:A3)")
	return v
}

func TestExampleWork(t *testing.T) { // Promises 23.2, 23.3: the first row, and the last one.
	v := example(t)
	costs(t, v, 12, 6)
	ticked(t, v, 0, 3, 3)
	costs(t, v, 9, 6)
}

func TestExampleForecast(t *testing.T) { // Promise 23.1: the second row.
	v := example(t)
	l := ticks(0, 3, 1, 9, 2, 1, 0, -1)
	foretold(t, v, l, came(3, "B1"), came(6, "T!A1"), refused(api.ErrTask), refused(api.ErrBudget))
	comes(t, v, l, came(3, "B1"), came(6, "T!A1"), refused(api.ErrTask), refused(api.ErrBudget))
	costs(t, v, 3, 3)
}
