package watch

import (
	"testing"

	"whittle/api"
)

func TestSinceEachMoment(t *testing.T) { // Promise 18.2: the cells that were touched at a later moment, each once, however often they were.
	x := opened(t)
	edited(t, x, "A1", "1")            // 1
	edited(t, x, "B1", "=A1")          // 2
	edited(t, x, "T!A1", "=B1")        // 3: T's own B1
	edited(t, x, "A1", "2", "C1", "x") // 4: B1 was stale
	ticked(t, x, 0, 9, 2)              // 5: B1
	edited(t, x, "A1", "3")            // 6: A1, B1
	ticked(t, x, 1, 9, 2)              // 7: T!A1
	momentIs(t, x, 7)
	for m, want := range []string{"A1 B1 C1 T!A1", "A1 B1 C1 T!A1", "A1 B1 C1 T!A1", "A1 B1 C1 T!A1", "A1 B1 T!A1", "A1 B1 T!A1", "T!A1", ""} {
		sinceIs(t, x, m, want)
	}
}

func TestSinceTellsEmptyCells(t *testing.T) { // Promise 18.2: cells that are empty now, and such as were never anything else, too.
	x := settled(t, "A1", "1", "B1", "=A1")
	touches(t, x, "A1 B1", "A1", "", "B1", "")
	touches(t, x, "C9", "C9", "")
	sinceIs(t, x, 2, "A1 B1 C9")
	sinceIs(t, x, 0, "A1 B1 C9")
	if x.Len() != 0 {
		t.Error(x.Len())
	}
}

func TestSinceNoMoment(t *testing.T) { // Promise 18.2: ErrMoment, and no cells, of what is below 0 or behind the moment as it is.
	x := opened(t)
	momentIs(t, x, 0)
	for m := 1; m < 5; m++ {
		edited(t, x, "A1", "=1")
		momentIs(t, x, 2*m-1)
		ticked(t, x, 0, 2, 2)
		momentIs(t, x, 2*m)
		for _, odd := range []int{-2, 2*m + 2, 2*m + 1000, 1 << 31, 1 << 62, -1 << 31} {
			if l, why := x.Since(odd); len(l) != 0 || why != api.ErrMoment {
				t.Errorf("Since(%d): %v, %d", odd, l, why)
			}
		}
	}
}

func TestSinceInOrder(t *testing.T) { // Promise 18.2: in the order of cells, by sheet, then row, then column, whatever was touched first.
	x := opened(t)
	for _, name := range []string{"U!A1", "T!B2", "T!A2", "T!IV1", "IV65536", "A65536", "B10", "A10", "C9", "B9", "IV1", "AA1", "Z1", "B1", "A1"} {
		edited(t, x, name, "1")
	}
	sinceIs(t, x, 0, "A1 B1 Z1 AA1 IV1 B9 C9 A10 B10 A65536 IV65536 T!IV1 T!A2 T!B2 U!A1")
	sinceIs(t, x, 5, "A1 B1 Z1 AA1 IV1 B9 C9 A10 B10 A65536")
	sinceIs(t, x, 14, "A1")
}

func TestSinceTurnsNothing(t *testing.T) { // R4, 18.4: asked again, in whatever order, it tells the same.
	x := midway(t)
	was := tellsAll(x)
	for m := x.Moment() + 2; m >= -2; m-- {
		x.Since(m)
	}
	if tellsAll(x) != was || tellsAll(x) != was {
		t.Error("what was asked turns what is told")
	}
}
