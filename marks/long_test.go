package marks

import (
	"fmt"
	"math/rand"
	"slices"
	"testing"

	"whittle/api"
	"whittle/place"
)

// row is the name of the cell number i of the column A.
func row(i int) string { return place.Name(api.Cell{Row: i}) }

// laid is marks whose cells number 0 to n - 1 of S's column A hold these texts, laid in whatever order.
func laid(t *testing.T, n int, text func(i int) string) *Marks {
	t.Helper()
	m := opened(t)
	for some := range slices.Chunk(rand.New(rand.NewSource(151)).Perm(n), api.MaxBatch) {
		var l []api.Change
		for _, i := range some {
			l = append(l, put(row(i), text(i)))
		}
		taken(t, m, l...)
	}
	return m
}

// inTurn does the cells from a number on, of which one alone is ready at any moment.
func inTurn(t *testing.T, m *Marks, from, n int) {
	t.Helper()
	for i := from; i < n; i++ {
		c := api.Cell{Row: i}
		if m.Count() != n-i || !m.Ready(c) || i+1 < n && m.Ready(api.Cell{Row: i + 1}) || m.Ready(api.Cell{Row: n - 1}) != (i == n-1) {
			t.Fatalf("%s: Count %d, ready %v", row(i), m.Count(), m.Ready(c))
		}
		if i%512 == 0 && !slices.Equal(m.ReadyOf(0), []api.Cell{c}) {
			t.Fatalf("ReadyOf: %v at %d", m.ReadyOf(0), i)
		}
		if why := m.Done(c); why != api.OK {
			t.Fatalf("Done(%s): %d", row(i), why)
		}
	}
}

func TestLongChain(t *testing.T) { // Promises 15.1 to 15.4: as many cells as a book may hold, each using the one ahead, by itself and in an area.
	for form, text := range map[string]func(i int) string{
		"cell":  func(i int) string { return "=" + row(i-1) },
		"small": func(i int) string { return fmt.Sprintf("=SUM(%s:C%d)", row(i-1), i) },
		"great": func(i int) string { return fmt.Sprintf("=SUM(%s:Z%d)", row(i-1), i) },
	} {
		n := api.MaxCells
		m := laid(t, n, func(i int) string {
			if i == 0 {
				return "=B9999"
			}
			return text(i)
		})
		inTurn(t, m, 0, n)
		edited(t, m, "A2000", "1")
		if l := m.Last(); len(l.Stale) != n-2000 || l.Stale[0] != at("A2001") || len(l.Fresh) != 0 {
			t.Fatalf("%s: Last of %d and %d cells", form, len(l.Stale), len(l.Fresh))
		}
		inTurn(t, m, 2000, n)
		edited(t, m, "B9999", "")
		inTurn(t, m, 0, 1999)
	}
}

func TestLongCircle(t *testing.T) { // Promises 15.1, 15.2: a circle of all cells that a book may hold, opened, closed while all are stale, opened elsewhere.
	n := api.MaxCells
	m := laid(t, n, func(i int) string { return "=" + row((i+n-1)%n) })
	are(t, m, "", "")
	edited(t, m, "A1", "1")
	if l := m.Last(); len(l.Stale) != n-1 || l.Stale[0] != at("A2") || m.Count() != n-1 || names(m.ReadyOf(0)) != "A2" {
		t.Error(len(l.Stale), m.Count(), names(m.ReadyOf(0)))
	}
	done(t, m, "A2 A3")
	edited(t, m, "A1", "="+row(n-1))
	if l := m.Last(); len(l.Stale) != 0 || len(l.Fresh) != n-3 || l.Fresh[0] != at("A4") {
		t.Error(len(l.Stale), len(l.Fresh))
	}
	are(t, m, "", "")
	edited(t, m, "A2000", "")
	if l := m.Last(); len(l.Stale) != n-1 || len(l.Fresh) != 0 || names(m.ReadyOf(0)) != "A2001" {
		t.Error(len(l.Stale), len(l.Fresh), names(m.ReadyOf(0)))
	}
}

func TestSums(t *testing.T) { // Promises 15.1 to 15.4: running sums, each over all cells ahead.
	n := 1200
	m := laid(t, n, func(i int) string {
		if i == 0 {
			return "=5"
		}
		return fmt.Sprintf("=SUM(A1:%s)+SUM(A1:B%d)+%s", row(i-1), i, row(i-1))
	})
	inTurn(t, m, 0, n)
	edited(t, m, "A600", "2")
	if l := m.Last(); len(l.Stale) != n-600 || m.Count() != n-600 {
		t.Error(len(l.Stale), m.Count())
	}
	inTurn(t, m, 600, n)
	edited(t, m, "A1", "=6")
	if m.Count() != n-1 || names(m.ReadyOf(0)) != "A1" {
		t.Error(m.Count(), names(m.ReadyOf(0)))
	}
	again := restored(t, stateOf(m))
	if !slices.Equal(again.StaleOf(0), m.StaleOf(0)) || !slices.Equal(again.ReadyOf(0), m.ReadyOf(0)) {
		t.Error("restored sums tell another thing")
	}
	done(t, again, "A1 A2 A3")
	if names(again.ReadyOf(0)) != "A4" {
		t.Error(names(again.ReadyOf(0)))
	}
}

func TestAllUseOne(t *testing.T) { // Promises 15.1 to 15.4: all cells that a book may hold use one, and one uses them all.
	n := api.MaxCells
	m := laid(t, n, func(i int) string {
		switch i {
		case 0:
			return "=B1"
		case 1:
			return fmt.Sprintf("=SUM(A3:A%d)", n)
		}
		return "=A1"
	})
	if m.Count() != n || names(m.ReadyOf(0)) != "A1" {
		t.Fatal(m.Count(), names(m.ReadyOf(0)))
	}
	done(t, m, "A1")
	l := m.ReadyOf(0)
	if len(l) != n-2 || l[0] != at("A3") || !slices.Equal(l, m.StaleOf(0)[1:]) {
		t.Fatal(len(l))
	}
	for _, i := range rand.New(rand.NewSource(152)).Perm(len(l)) {
		if m.Ready(at("A2")) || m.Done(l[i]) != api.OK {
			t.Fatal(l[i], m.Ready(at("A2")))
		}
	}
	are(t, m, "A2", "A2")
	edited(t, m, "B1", "")
	if k := len(m.Last().Stale); k != n-1 || m.Count() != n {
		t.Error(k, m.Count())
	}
}

func TestAllUseAll(t *testing.T) { // Promise 15.1: each formula uses all cells of its sheet: none is ever stale; one of another sheet that uses theirs is not, either.
	m := laid(t, 400, func(int) string { return "=SUM(A1:IV65536)" })
	edited(t, m, "T!A1", "=S!A1", "T!B1", "=5")
	are(t, m, "T!B1", "T!B1")
	edited(t, m, "Z9", "1")
	lastIs(t, m, "", "")
}
