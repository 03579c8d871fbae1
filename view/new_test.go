package view

import (
	"fmt"
	"strings"
	"testing"

	"whittle/api"
	"whittle/tasks"
)

// many are k names.
func many(k int) []string {
	var l []string
	for i := range k {
		l = append(l, fmt.Sprint("N", i))
	}
	return l
}

// wrongSheets are names of which there is no book, with their errors.
func wrongSheets() map[api.Errno][][]string {
	return map[api.Errno][][]string{
		api.ErrArg:   {nil, {}},
		api.ErrMany:  {many(api.MaxSheets + 1), make([]string, api.MaxSheets+1), append(many(api.MaxSheets), "N0")},
		api.ErrLatin: {{""}, {"S", "1S"}, {"S", "S\n", "S"}, {strings.Repeat("S", api.MaxName+1)}},
		api.ErrTwice: {{"S", "S"}, {"S", "T", "S", ""}},
	}
}

func TestNewRefused(t *testing.T) { // Promise 17.1: New is refused as the tasks', with no view.
	for want, lists := range wrongSheets() {
		for _, sheets := range lists {
			x, why := New(sheets...)
			_, too := tasks.New(sheets...)
			if x != nil || why != want || why != too {
				t.Errorf("New(%q): %v, %d, want %d; the tasks' %d", sheets, x, why, want, too)
			}
		}
	}
}

func TestNewTaken(t *testing.T) { // Promises 17.1, 17.3: at first all cells are empty, fresh, of version 0; nothing is shown, nothing is stale.
	for k := 1; k <= api.MaxSheets; k++ {
		x, why := New(many(k)...)
		if x == nil || why != api.OK {
			t.Fatalf("New of %d names: %d", k, why)
		}
		inner, _ := tasks.New(many(k)...)
		if tellsTasks(x) != tellsTasks(inner) || tellsLast(x) != tellsLast(inner) {
			t.Errorf("New of %d names tells %s", k, tellsTasks(x))
		}
		idleIs(t, x, true)
		for sheet := range k {
			if got := read(t, x, api.Cell{Sheet: sheet, Row: 7}); got != vacant(0) {
				t.Error(got)
			}
			shows(t, x, sheet, "")
		}
		want := api.State{Sheets: many(k), Views: make([][]api.Area, k), Frames: make([]api.Flight, k)}
		if s := x.State(); !sameState(s, want) {
			t.Errorf("State: %v", s)
		}
		restored(t, want)
	}
}

func TestPromoted(t *testing.T) { // Promise 17.1, R7: what the tasks, the marks, the graph and the book tell, a view tells, behind edits, ticks, traces, viewports and Dones.
	x := opened(t)
	inner, _ := tasks.New("S", "T", "U")
	for i, l := range [][]string{
		{"A1", "1", "B1", "=A1", "C1", "=SUM(A1:B1)", "A2", "=B2", "B2", "=A2", "T!A1", "=S!C1"},
		{"A1", "'7", "C2", "=A2+C1"},
		{"B1", ""},
		{"B2", "x", "U!A1", "=T!A1+S!C2", "T!IV65536", "=SUM(S!A1:C9)"},
		{"B1", "=U!A1"},
		{"T!A1", "TRUE", "IV65536", "=B1"},
	} {
		if r, too := x.Edit(puts(l...)...), inner.Edit(puts(l...)...); r != too {
			t.Fatal(r, too)
		}
		bothTell(t, x, inner)
		views := areas("A1:B2 C1")[:i%3]
		if why, too := x.See(0, views...), inner.See(0, views...); why != too {
			t.Fatal(why, too)
		}
		for k := range 4 * i {
			one, why := x.Tick(k%3, 2)
			two, too := inner.Tick(k%3, 2)
			if one != two || why != too {
				t.Fatal(one, why, two, too)
			}
		}
		bothTell(t, x, inner)
		for k, c := range universe() {
			if k%4 != i%4 {
				continue
			}
			if why, too := x.Done(c), inner.Done(c); why != too {
				t.Fatal(why, too)
			}
		}
		bothTell(t, x, inner)
	}
	// Some of it by hand: it is the promoted calls' answer, not both's alike.
	if x.Version() != 6 || x.Kind(at("B1")) != api.Formula || x.Text(at("A1")) != "'7" || x.Len() != 10 || names(x.Cells(1)...) != "T!A1 T!IV65536" || x.Sheet("U") != 2 || len(x.Sheets()) != 3 {
		t.Error(x.Version(), x.Text(at("A1")), x.Len(), names(x.Cells(1)...))
	}
	if names(x.Users(at("B1"))...) != "C1 IV65536 T!IV65536" || !x.Cyclic(at("U!A1")) || x.Level(at("A2")) != 1 || names(x.Circle(at("IV65536"))...) != "B1 C1 C2 U!A1 B1" || names(x.Path(at("B2"), at("U!A1"))...) != "B2 A2 C2 U!A1" {
		t.Error(names(x.Users(at("B1"))...), x.Level(at("A2")), names(x.Circle(at("IV65536"))...))
	}
	if x.Constant(at("A1")) != txt("7") || len(x.Code(at("B1"))) != 2 || len(x.Uses(at("C1"))) != 1 || x.Value(at("A1")) != txt("7") {
		t.Error(x.Constant(at("A1")), x.Code(at("B1")))
	}
	edited(t, x, "U!A1", "5")
	if l := x.Last(); names(l.Stale...) != "B1 C1 C2 IV65536 T!IV65536" || x.Count() != 5 || !x.Stale(at("C1")) || !x.Ready(at("B1")) || names(x.StaleOf(1)...) != "T!IV65536" || names(x.ReadyOf(0)...) != "B1" {
		t.Error(l, x.Count())
	}
	seen(t, x, 0, "B1")
	ticked(t, x, 0, 1, 1)
	parkedIs(t, x, 0, "B1", 1)
	edited(t, x, "B1", "=U!A1")
	abortedIs(t, x, "B1")
	nextIs(t, x, 0, "B1")
}

// bothTell holds what a view tells by promotion against tasks that have been through the same; and what it tells of values against them.
func bothTell(t *testing.T, x *View, inner *tasks.Tasks) {
	t.Helper()
	if one, two := tellsTasks(x)+tellsLast(x), tellsTasks(inner)+tellsLast(inner); one != two {
		t.Fatalf("a view tells %s, tasks %s", one, two)
	}
	for _, c := range universe() {
		if got := read(t, x, c); got.V != inner.Value(c) || got.Fresh == inner.Stale(c) {
			t.Fatalf("%s tells %v; its Value is %v, it is stale: %v", names(c), got, inner.Value(c), inner.Stale(c))
		}
	}
}

func TestEmbedded(t *testing.T) { // Promise 17.1, R7: a view is tasks, marks, a graph and a book, too: the very ones that it embeds.
	x := settled(t, "A1", "1", "B1", "=A1")
	edited(t, x, "C1", "=B1")
	ticked(t, x, 0, 1, 1)
	if x.Tasks.Marks != x.Marks || x.Marks.Graph != x.Graph || x.Graph.Book != x.Book || x.Book.Version() != 2 || x.Marks.Count() != 1 || x.Tasks.Value(at("B1")) != n(1) {
		t.Error("the tasks that are embedded tell another thing")
	}
	if p, on := x.Tasks.Parked(0); !on || p.Cell != at("C1") {
		t.Error(p, on)
	}
}

func TestDoneByOthers(t *testing.T) { // Promise 17.2, 15.4, R7: a cell that others have Done is fresh, and tells the value that it told, as a fresh cell tells it, of this version and of those behind.
	x := opened(t, "A1", "2", "B1", "=A1", "C1", "=B1", "A2", "=A1+1")
	ticked(t, x, 0, 5, 5) // B1, and 3 steps of A2
	edited(t, x, "A1", "3")
	reads(t, x, "B1", old(n(2), 1))
	reads(t, x, "C1", never())
	if why := x.Done(at("C1")); why != api.ErrReady {
		t.Error(why)
	}
	doneIs(t, x, "B1")
	reads(t, x, "B1", fresh(n(2), 2))
	reads(t, x, "C1", never())
	doneIs(t, x, "C1") // it was never fresh
	reads(t, x, "C1", fresh(blank(), 2))
	reads(t, x, "A2", never())
	idleIs(t, x, false)
	edited(t, x, "Z9", "1")
	reads(t, x, "B1", fresh(n(2), 3))
	edited(t, x, "B1", "=A1") // 4
	reads(t, x, "B1", old(n(2), 3))
	reads(t, x, "C1", old(blank(), 3))
	edited(t, x, "C1", "")
	edited(t, x, "C1", "=B1")
	reads(t, x, "C1", never())
	doneIs(t, x, "A2")
	reads(t, x, "A2", fresh(blank(), 6))
	ticked(t, x, 0, 99, 4)
	reads(t, x, "B1", fresh(n(3), 6))
	reads(t, x, "C1", fresh(n(3), 6))
	reads(t, x, "A2", fresh(blank(), 6))
	idleIs(t, x, true)
	again := restored(t, x.State())
	if tells(again) != tells(x) {
		t.Error("a view with cells that others have Done is restored as another one")
	}
}
