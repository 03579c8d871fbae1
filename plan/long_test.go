package plan

import (
	"fmt"
	"math/rand"
	"slices"
	"testing"

	"whittle/api"
	"whittle/place"
	"whittle/view"
)

// name is that of the cell number i of the column A.
func name(i int) string { return place.Name(api.Cell{Row: i}) }

// laid is a view whose cells number 0 to k - 1 of S's column A hold these texts, laid in whatever order.
func laid(t *testing.T, k int, text func(i int) string) *view.View {
	t.Helper()
	v := opened(t)
	for some := range slices.Chunk(rand.New(rand.NewSource(231)).Perm(k), api.MaxBatch) {
		var l []string
		for _, i := range some {
			l = append(l, name(i), text(i))
		}
		edited(t, v, l...)
	}
	return v
}

func TestLongRow(t *testing.T) { // Promises 23.1 to 23.3: one row of as many cells as a book may hold, from its last one up to its first.
	k := api.MaxCells
	v := laid(t, k, func(i int) string {
		if i == k-1 {
			return "=7"
		}
		return "=" + name(i+1)
	})
	if w, l := Work(v), Longest(v); w != 2*k || l != 2*k {
		t.Error(w, l)
	}
	ticked(t, v, 0, 2*k/2+1, 2*k/2+1)
	if w, l := Work(v), Longest(v); w != k-1 || l != k-1 {
		t.Error(w, l)
	}
	got := Forecast(v, ticks(0, k-2, 0, most)...)
	if len(got) != 2 || got[0].Steps != k-2 || len(got[0].Done) != k/2-1 || got[0].Done[0] != (api.Cell{Row: k/2 - 1}) || !sameOutcome(got[1], came(1, "A1")) {
		t.Error(shown(got))
	}
}

func TestManyApart(t *testing.T) { // Promises 23.1 to 23.3: as many cells as a book may hold, none of which uses another.
	k := api.MaxCells
	v := laid(t, k, func(i int) string { return "=1+B" + name(i)[1:] })
	ticked(t, v, 0, 2, 2)
	if w, l := Work(v), Longest(v); w != 4*k-2 || l != 4 {
		t.Error(w, l)
	}
	got := Forecast(v, ticks(0, 4*k-3, 0, 9)...)
	if len(got) != 2 || got[0].Steps != 4*k-3 || len(got[0].Done) != k-1 || got[0].Done[k-2] != (api.Cell{Row: k - 2}) || !sameOutcome(got[1], came(1, name(k-1))) {
		t.Error(shown(got))
	}
}

func TestAllOverAll(t *testing.T) { // Promises 23.1 to 23.3: each cell over all ahead of it, and over some of them twice.
	const k = 1200
	v := laid(t, k, func(i int) string {
		if i == 0 {
			return "=COUNT(B1:B9)"
		}
		return fmt.Sprintf("=COUNT(A1:A%d,A%d:A%d)", i, (i+1)/2, i)
	})
	all, done := 12, list("A1")
	for i := 1; i < k; i++ {
		all += 2 + i + i - (i+1)/2 + 1 + 1
		done = append(done, api.Cell{Row: i})
	}
	if w, l := Work(v), Longest(v); w != all || l != all {
		t.Error(w, l, all)
	}
	got := Forecast(v, ticks(0, all-1, 0, 2, 0, 1)...)
	want := []api.Outcome{{Steps: all - 1, Done: done[:k-1]}, {Steps: 1, Done: done[k-1:]}, {}}
	if !slices.EqualFunc(got, want, sameOutcome) {
		t.Error("another end", len(got[0].Done))
	}
}

func TestManyTicks(t *testing.T) { // Promise 23.1: very many ticks, handed in at once.
	const k = 200000
	v := opened(t, "A1", "=SUM(C1:C30000)", "T!A1", "=SUM(C1:C40000)", "T!B1", "=S!A1", "U!A1", "=T!B1")
	var l []api.Tick
	for i := range k {
		l = append(l, api.Tick{Task: i%4 - 1, Budget: i % 3})
	}
	got := Forecast(v, l...)
	if want := did(v, l); len(got) != k || !slices.EqualFunc(got, want, sameOutcome) {
		t.Error("another end")
	}
	if Work(v) != 0 {
		t.Error(Work(v))
	}
}
