package witness

import (
	"fmt"
	"math/rand"
	"slices"
	"testing"

	"whittle/api"
	"whittle/place"
	"whittle/tasks"
)

// row is the name of the cell number i of the column A.
func row(i int) string { return place.Name(api.Cell{Row: i}) }

// laid is tasks whose cells number 0 to k - 1 of S's column A hold these texts, laid in whatever order.
func laid(t *testing.T, k int, text func(i int) string) *tasks.Tasks {
	t.Helper()
	x := opened(t)
	for some := range slices.Chunk(rand.New(rand.NewSource(221)).Perm(k), api.MaxBatch) {
		var l []string
		for _, i := range some {
			l = append(l, row(i), text(i))
		}
		edited(t, x, l...)
	}
	return x
}

// downFrom holds that the chain of the cell number i is all cells from it on up to the first one.
func downFrom(t *testing.T, x *tasks.Tasks, i, first int) {
	t.Helper()
	l, why := Chain(x, api.Cell{Row: i})
	if len(l) != i-first+1 || why != api.OK {
		t.Fatalf("Chain(%s): %d cells, %d", row(i), len(l), why)
	}
	for k, c := range l {
		if c != (api.Cell{Row: i - k}) {
			t.Fatalf("number %d of the chain of %s is %s", k, row(i), names(c))
		}
	}
}

func TestLongChains(t *testing.T) { // Promise 22.1: of as many cells as a book may hold, from each of them on.
	k := api.MaxCells
	x := laid(t, k, func(i int) string {
		if i == 0 {
			return "=IV65536"
		}
		return "=" + row(i-1)
	})
	for i := 0; i < k; i += 15 {
		downFrom(t, x, i, 0)
	}
	downFrom(t, x, k-1, 0)
	ticked(t, x, 0, 4001, 4001)
	noChain(t, x, at("A2000"), api.ErrFresh)
	downFrom(t, x, k-1, 2000)
	edited(t, x, "A1", "7")
	downFrom(t, x, k-1, 1)
}

func TestWideChains(t *testing.T) { // Promise 22.1: many formulas over areas of whole sheets: the first stale cell in them, behind very many fresh ones.
	const k = 1500
	x := laid(t, k, func(i int) string { return fmt.Sprintf("=SUM(T!A1:IV65536,B1:IV65536,A%d:A65536)", i+2) })
	edited(t, x, "T!IV65536", "=1", "T!A1", "5")
	for i := 0; i < k-1; i += 499 {
		l, why := Chain(x, api.Cell{Row: i})
		if len(l) != k-i+1 || l[1] != (api.Cell{Row: i + 1}) || l[k-i] != at("T!IV65536") || why != api.OK {
			t.Fatal(i, len(l), why)
		}
	}
	ticked(t, x, 1, 2, 2)
	l, why := Chain(x, at("A1"))
	if len(l) != k || l[k-1] != (api.Cell{Row: k - 1}) || why != api.OK {
		t.Error(len(l), why)
	}
}

func TestLongReplay(t *testing.T) { // Promise 22.2, R1: a run of very many steps, gathered of many traces; and with its last but one left out, or one of another cell in its midst.
	const last = 60000
	x := opened(t, "A1", "5", "A60000", "=2", "T!A1", fmt.Sprintf("=SUM(S!A1:A%d)", last))
	ticked(t, x, 0, 9, 2)
	var run []api.Event
	for x.Stale(at("T!A1")) {
		run = append(run, traced(t, x, 1, api.MaxTrace)...)
	}
	if len(run) != last+3 {
		t.Fatal(len(run))
	}
	l := x.Code(at("T!A1"))
	replayed(t, l, n(7), run...)
	not := func(events []api.Event) {
		t.Helper()
		if v, ok := Replay(l, events...); ok || v != blank() {
			t.Error(v, ok)
		}
	}
	not(left(run, last+1))
	not(left(run, 30000))
	not(twice(run, 30000))
	not(bent(run, 30000, func(x *api.Event) { x.Cell.Col++ }))
	not(bent(run, 30000, func(x *api.Event) { x.Read.Row++ }))
	not(run[:last+2])
	if p := Split(run...); len(p) != 1 || len(p[0]) != len(run) {
		t.Error(len(p))
	}
}

func TestLongCode(t *testing.T) { // Promise 22.2, R8: a run of a very long code.
	const many = 3000
	l := slices.Repeat([]api.Ins{{Op: api.InsPush, V: n(1)}}, many)
	l = append(l, slices.Repeat([]api.Ins{{Op: api.InsBin, A: api.OpAdd}}, many-1)...)
	l = append(l, api.Ins{Op: api.InsStore})
	run := make([]api.Event, len(l))
	run[len(l)-1] = api.Event{Wrote: true, V: n(many)}
	replayed(t, l, n(many), run...)
	noReplay(t, "one left out", l, run[1:]...)
	noReplay(t, "without its end", l, run[:len(l)-1]...)
}

func TestManyPieces(t *testing.T) { // Promise 22.3: of very many events, each a piece of its own.
	const many = 300000
	l := make([]api.Event, many)
	for i := range l {
		l[i].Wrote = true
		l[i].Cell.Row = i % 3
	}
	p := Split(l...)
	if len(p) != many {
		t.Fatal(len(p))
	}
	for i := range p {
		if len(p[i]) != 1 || p[i][0] != l[i] {
			t.Fatal(i, p[i])
		}
	}
}
