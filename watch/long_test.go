package watch

import (
	"math/rand"
	"slices"
	"testing"

	"whittle/api"
	"whittle/place"
)

// row is the name of the cell number i of the column A.
func row(i int) string { return place.Name(api.Cell{Row: i}) }

// chain is as many cells as a book may hold, all but B9999 each using the one ahead, laid in whatever order.
func chain(t *testing.T) *Watch {
	t.Helper()
	x := opened(t)
	for some := range slices.Chunk(rand.New(rand.NewSource(181)).Perm(api.MaxCells-1), api.MaxBatch) {
		var l []api.Change
		for _, i := range some {
			text := "=B9999+1"
			if i > 0 {
				text = "=" + row(i-1)
			}
			l = append(l, put(row(i), text))
		}
		taken(t, x, l...)
	}
	return x
}

// touchedSince holds how many cells were touched behind a moment.
func touchedSince(t *testing.T, x *Watch, moment, want int) []api.Cell {
	t.Helper()
	l, why := x.Since(moment)
	if len(l) != want || why != api.OK || !slices.IsSortedFunc(l, func(a, b api.Cell) int { return a.Row - b.Row }) {
		t.Fatalf("Since(%d): %d cells, %d, want %d", moment, len(l), why, want)
	}
	return l
}

func TestLongChain(t *testing.T) { // Promise 18.2: a full book, turned from end to end by one edit, and written one cell a moment.
	const k = api.MaxCells - 1
	x := chain(t)
	momentIs(t, x, k/api.MaxBatch+1)
	touchedSince(t, x, 0, k)
	m := x.Moment()
	settle(t, x)
	momentIs(t, x, m+k)
	for _, back := range []int{1, 2, 100, k - 1, k} {
		if l := touchedSince(t, x, x.Moment()-back, back); l[0] != (api.Cell{Row: k - back}) {
			t.Errorf("%d moments ago: %v", back, l[0])
		}
	}
	m = x.Moment()
	edited(t, x, "B9999", "6")
	momentIs(t, x, m+1)
	touchedSince(t, x, m, k+1)
	ticked(t, x, 0, 4+2*2000+1, 4+2*2000+1)
	momentIs(t, x, m+1+2001)
	touchedSince(t, x, m+1, 2001)
	m = x.Moment()
	edited(t, x, "B9998", "")
	sinceIs(t, x, m, "B9998")
	m = x.Moment()
	edited(t, x, "A2000", "=A4095") // a circle of many: of fresh ones and of stale ones
	momentIs(t, x, m+1)
	if l := touchedSince(t, x, m, k-1999); l[0] != at("A2000") {
		t.Error(l[0])
	}
	edited(t, x, "A2000", "=A4094") // still one, and A4095 reaches it
	sinceIs(t, x, m+1, "A2000")
	edited(t, x, "A2000", "2")
	touchedSince(t, x, m+2, k-1999)
}

func TestAskedBehindEachStep(t *testing.T) { // Promises 18.2, 18.4: a long run, asked behind each of its steps.
	x := chain(t)
	m := x.Moment()
	ticked(t, x, 0, 4, 4)
	for i := range api.MaxCells - 2 {
		ticked(t, x, 0, 1, 1)
		sinceIs(t, x, m, row(i))
		ticked(t, x, 0, 1, 1)
		m++
	}
	momentIs(t, x, m+1)
	sinceIs(t, x, m, "A4095")
}

func TestLongSum(t *testing.T) { // Promises 18.1, 18.2: steps beyond what a trace tells, in one tick, with writes ahead of them and behind them.
	x := opened(t, "A1", "=1", "A2", "=SUM(B1:B20000)", "A3", "=A2")
	ticked(t, x, 0, 1<<62, 2+20003+2)
	momentIs(t, x, 4)
	sinceIs(t, x, 1, "A1 A2 A3")
	sinceIs(t, x, 2, "A2 A3")
	sinceIs(t, x, 3, "A3")
	edited(t, x, "A2", "=SUM(B1:B20000)")
	ticked(t, x, 0, 20002, 20002)
	momentIs(t, x, 5)
	ticked(t, x, 0, 1, 1)
	momentIs(t, x, 6)
	sinceIs(t, x, 5, "A2")
}

func TestManyCellsComeAndGo(t *testing.T) { // Promise 18.2: far more cells are told than a book may hold at once, if all were touched.
	x := opened(t)
	for i := range 100 {
		var l []api.Change
		for k := range api.MaxBatch {
			l = append(l, api.Change{Cell: api.Cell{Row: i, Col: k}})
		}
		taken(t, x, l...)
	}
	momentIs(t, x, 100)
	for _, m := range []int{0, 1, 50, 99, 100} {
		touchedSince(t, x, m, (100-m)*api.MaxBatch)
	}
}
