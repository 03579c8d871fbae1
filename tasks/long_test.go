package tasks

import (
	"fmt"
	"math/rand"
	"slices"
	"testing"

	"whittle/api"
	"whittle/place"
)

// row is the name of the cell number i of the column A.
func row(i int) string { return place.Name(api.Cell{Row: i}) }

// laid is tasks whose cells number 0 to k - 1 of S's column A hold these texts, laid in whatever order.
func laid(t *testing.T, k int, text func(i int) string) *Tasks {
	t.Helper()
	x := opened(t)
	for some := range slices.Chunk(rand.New(rand.NewSource(161)).Perm(k), api.MaxBatch) {
		var l []api.Change
		for _, i := range some {
			l = append(l, put(row(i), text(i)))
		}
		taken(t, x, l...)
	}
	return x
}

func TestLongChain(t *testing.T) { // Promises 16.3, 16.5, 16.6: as many cells as a book may hold, each using the one ahead, in one tick and in slices.
	k := api.MaxCells - 1 // and B9999
	x := laid(t, k, func(i int) string {
		if i == 0 {
			return "=B9999+1"
		}
		return "=" + row(i-1)
	})
	nextIs(t, x, 0, "A1")
	ticked(t, x, 0, 1<<62, 4+2*(k-1))
	valueIs(t, x, "A4095", n(1))
	edited(t, x, "B9999", "6")
	nextIs(t, x, 0, "A1")
	sum := 0
	for i := 0; x.Count() > 0; i++ {
		one, why := x.Tick(0, 1+i%7)
		sum += one
		if one == 0 || why != api.OK {
			t.Fatal(one, why)
		}
	}
	if sum != 4+2*(k-1) || x.Value(at("A4095")) != n(7) {
		t.Error(sum, x.Value(at("A4095")))
	}
	edited(t, x, "A2000", "=A4095") // a circle of many, and others that reach it
	staleAre(t, x, "", "")
	valueIs(t, x, "A1999", n(7))
	valueIs(t, x, "A2000", circle())
	valueIs(t, x, "A3000", circle())
	edited(t, x, "A2000", "2")
	valueIs(t, x, "A4095", circle())
	nextIs(t, x, 0, "A2001")
	ticked(t, x, 0, 1<<62, 2*(k-2000))
	valueIs(t, x, "A4095", n(2))
}

func TestAllReady(t *testing.T) { // Promise 16.5: as many ready cells as a book may hold come in their order, the seen ones ahead.
	k := api.MaxCells
	x := laid(t, k, func(i int) string { return fmt.Sprintf("=%d", i) })
	seen(t, x, 0, "A1001:A1002 A4000:A9000 A1002:A1003")
	var want []api.Cell
	for _, i := range []int{1000, 1001, 1002} {
		want = append(want, api.Cell{Row: i})
	}
	for i := range k {
		if i >= 3999 {
			want = append(want, api.Cell{Row: i})
		}
	}
	for i := range k {
		if i < 1000 || i > 1002 && i < 3999 {
			want = append(want, api.Cell{Row: i})
		}
	}
	var wrote []api.Cell
	for x.Count() > 0 {
		for _, e := range traced(t, x, 0, api.MaxTrace) {
			if e.Wrote {
				wrote = append(wrote, e.Cell)
			}
		}
	}
	same(t, "written", wrote, want)
	valueIs(t, x, "A4096", n(4095))
}

func TestAllUseOne(t *testing.T) { // Promises 16.3, 16.6: all cells that a book may hold use one, and one uses them all.
	k := api.MaxCells - 1 // and B1
	x := laid(t, k, func(i int) string {
		switch i {
		case 0:
			return "=B1"
		case 1:
			return fmt.Sprintf("=COUNT(A3:A%d)", k)
		}
		return "=A1"
	})
	work := 2 + (k - 2) + 3 + 2*(k-2)
	ticked(t, x, 0, 1<<62, work)
	valueIs(t, x, "A2", n(0))
	edited(t, x, "B1", "5")
	ticked(t, x, 0, work-9, work-9)
	parkedIs(t, x, 0, "A2", k-2+3-9)
	edited(t, x, "A4095", "=A1")
	abortedIs(t, x, "A2")
	ticked(t, x, 0, 1<<62, 2+k-2+3)
	valueIs(t, x, "A2", n(k-2))
}

func TestGreatScan(t *testing.T) { // Promises 16.6, 16.8: a sum over a whole sheet, stopped in its midst, aborted, gone through.
	x := opened(t, "A1", "1", "IV65536", "2", "T!A1", "=SUM(S!A1:IV65536)")
	const cells = api.MaxRows * api.MaxCols
	ticked(t, x, 1, 1000000, 1000000)
	parkedIs(t, x, 1, "T!A1", 1000000)
	if f := x.Flight(1).Frame; f.Scans != 999999 || f.Accs[0].Num != (api.Num{N: 1, D: 1}) {
		t.Error(f)
	}
	again := restored(t, stateOf(x))
	edited(t, x, "T!B1", "1")
	abortedIs(t, x, "")
	edited(t, x, "B9", "4")
	abortedIs(t, x, "T!A1")
	ticked(t, x, 1, 1<<62, cells+3)
	valueIs(t, x, "T!A1", n(7))
	ticked(t, again, 1, 1<<62, cells+3-1000000)
	valueIs(t, again, "T!A1", n(3))
}

func TestSums(t *testing.T) { // Promises 16.5, 16.6: running sums, each over all cells ahead.
	k := 500
	x := laid(t, k, func(i int) string {
		if i == 0 {
			return "=1"
		}
		return fmt.Sprintf("=MAX(A1:%s)+1", row(i-1))
	})
	work := 2
	for i := 1; i < k; i++ {
		work += i + 5
	}
	ticked(t, x, 0, 1<<62, work)
	valueIs(t, x, "A500", n(500))
	edited(t, x, "A1", "=2")
	ticked(t, x, 0, work-1, work-1)
	parkedIs(t, x, 0, "A500", k-1+4)
	ticked(t, x, 0, 9, 1)
	valueIs(t, x, "A500", n(501))
}

func TestSixteenTasks(t *testing.T) { // Promises 16.5, 16.6: as many tasks as there may be, each waiting for the one ahead.
	x, why := New(many(api.MaxSheets)...)
	if why != api.OK {
		t.Fatal(why)
	}
	taken(t, x, api.Change{Text: "=5"})
	for i, name := range many(api.MaxSheets - 1) {
		taken(t, x, api.Change{Cell: api.Cell{Sheet: i + 1}, Text: "=" + name + "!A1+1"})
	}
	for i := range api.MaxSheets { // backwards all but one have nothing to do
		for task := api.MaxSheets - 1; task > i; task-- {
			ticked(t, x, task, 9, 0)
		}
		k, _ := x.Tick(i, 9)
		if c := (api.Cell{Sheet: i}); k != 4 && i > 0 || x.Value(c) != n(5+i) {
			t.Error(i, k, x.Value(c))
		}
	}
}
