package view

import (
	"math/rand"
	"slices"
	"testing"

	"whittle/api"
	"whittle/place"
)

// row is the name of the cell number i of the column A.
func row(i int) string { return place.Name(api.Cell{Row: i}) }

// laid is a view whose cells number 0 to k - 1 of S's column A hold these texts, laid in whatever order.
func laid(t *testing.T, k int, text func(i int) string) *View {
	t.Helper()
	x := opened(t)
	for some := range slices.Chunk(rand.New(rand.NewSource(171)).Perm(k), api.MaxBatch) {
		var l []api.Change
		for _, i := range some {
			l = append(l, put(row(i), text(i)))
		}
		taken(t, x, l...)
	}
	return x
}

// chain is as many cells as a book may hold, all but B9999 each using the one ahead.
func chain(t *testing.T) *View {
	t.Helper()
	return laid(t, api.MaxCells-1, func(i int) string {
		if i == 0 {
			return "=B9999+1"
		}
		return "=" + row(i-1)
	})
}

func TestLongChain(t *testing.T) { // Promises 17.2, 17.3, 17.4, 17.5: a full book, stale from end to end, ticked in slices, written down in its midst.
	x := chain(t)
	seen(t, x, 0, "A1:A4095")
	settle(t, x)
	version := x.Version()
	edited(t, x, "B9999", "6")
	for i := range api.MaxCells - 1 {
		if got := read(t, x, api.Cell{Row: i}); got != old(n(1), version) {
			t.Fatalf("%s tells %v", row(i), got)
		}
	}
	ticked(t, x, 0, 4+2*2000+1, 4+2*2000+1)
	reads(t, x, "A2001", fresh(n(7), version+1))
	reads(t, x, "A2002", old(n(1), version))
	l, _ := x.Window(0)
	if len(l) != api.MaxCells-1 || l[2000].Seen != fresh(n(7), version+1) || l[2001].Seen != old(n(1), version) {
		t.Error(len(l))
	}
	again := restored(t, x.State())
	for !again.Idle() {
		if k, why := again.Tick(0, 1); k != 1 || why != api.OK {
			t.Fatal(k, why)
		}
	}
	reads(t, again, "A4095", fresh(n(7), version+1))
	if len(again.until) != 0 {
		t.Error(len(again.until))
	}
	reads(t, x, "A4095", old(n(1), version))
	edited(t, x, "A2000", "=A4095") // a circle of many: of fresh ones and of stale ones
	idleIs(t, x, true)
	reads(t, x, "A1999", fresh(n(7), version+2))
	reads(t, x, "A2000", fresh(circle(), version+2))
	reads(t, x, "A4095", fresh(circle(), version+2))
	edited(t, x, "A2000", "2")
	reads(t, x, "A2001", old(circle(), version+2))
	reads(t, x, "A4095", old(circle(), version+2))
}

func TestManyReads(t *testing.T) { // Promise 17.3: reads between all steps of a long run.
	x := chain(t)
	version := x.Version()
	for i := range api.MaxCells - 1 {
		ticked(t, x, 0, 1, 1)
		reads(t, x, row(i), never())
		if i == 0 {
			ticked(t, x, 0, 2, 2)
		}
		ticked(t, x, 0, 1, 1)
		reads(t, x, row(i), fresh(n(1), version))
	}
	idleIs(t, x, true)
}
