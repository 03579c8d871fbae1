package undo

import (
	"fmt"
	"strings"
	"testing"

	"whittle/api"
	"whittle/watch"
)

// many are k names.
func many(k int) []string {
	var l []string
	for i := range k {
		l = append(l, fmt.Sprint("N", i))
	}
	return l
}

func TestNewRefused(t *testing.T) { // Promise 19.1: New is refused as the watch's, with no undo.
	for want, lists := range map[api.Errno][][]string{
		api.ErrArg:   {nil, {}},
		api.ErrMany:  {many(api.MaxSheets + 1), make([]string, api.MaxSheets+1), append(many(api.MaxSheets), "N0")},
		api.ErrLatin: {{""}, {"S", "1S"}, {"S", "S\n", "S"}, {strings.Repeat("S", api.MaxName+1)}},
		api.ErrTwice: {{"S", "S"}, {"S", "T", "S", ""}},
	} {
		for _, sheets := range lists {
			x, why := New(sheets...)
			_, too := watch.New(sheets...)
			if x != nil || why != want || why != too {
				t.Errorf("New(%q): %v, %d, want %d; the watch's %d", sheets, x, why, want, too)
			}
		}
	}
}

func TestNewTaken(t *testing.T) { // Promise 19.1: at first nothing can be taken back, nothing done again; all else is a new watch's.
	for k := 1; k <= api.MaxSheets; k++ {
		x, why := New(many(k)...)
		if x == nil || why != api.OK {
			t.Fatalf("New of %d names: %d", k, why)
		}
		inner, _ := watch.New(many(k)...)
		if tellsWatch(x) != tellsWatch(inner) {
			t.Errorf("New of %d names tells %s", k, tellsWatch(x))
		}
		stepsAre(t, x, 0, 0)
		stuck(t, x, x.Undo)
		stuck(t, x, x.Redo)
	}
}

func TestPromoted(t *testing.T) { // Promise 19.1, R7: what a watch tells and does, an undo does: some of it by hand.
	x := opened(t, "A1", "2", "B1", "=A1+1", "C1", "=C1", "T!A1", "=SUM(S!A1:B1)")
	if x.Version() != 1 || x.Kind(at("B1")) != api.Formula || x.Len() != 4 || x.Sheet("U") != 2 || names(x.Cells(1)...) != "T!A1" || x.Constant(at("A1")) != n(2) {
		t.Error(x.Version(), x.Text(at("B1")), x.Len())
	}
	if names(x.Users(at("B1"))...) != "T!A1" || !x.Cyclic(at("C1")) || x.Level(at("T!A1")) != 2 || names(x.Reach(at("A1"))...) != "B1 T!A1" {
		t.Error(names(x.Users(at("B1"))...), x.Level(at("T!A1")))
	}
	if x.Count() != 2 || !x.Stale(at("T!A1")) || x.Ready(at("T!A1")) || names(x.Last().Stale...) != "B1 T!A1" || names(x.ReadyOf(0)...) != "B1" {
		t.Error(x.Count(), x.Last())
	}
	seen(t, x, 0, "A1:B9")
	ticked(t, x, 0, 1, 1)
	parkedIs(t, x, 0, "B1", 1)
	reads(t, x, "B1", never())
	momentIs(t, x, 1)
	sinceIs(t, x, 0, "A1 B1 C1 T!A1")
	if l, why := x.Trace(0, 9); len(l) != 3 || why != api.OK || l[2] != (api.Event{Cell: at("B1"), V: n(3), Wrote: true}) {
		t.Error(l, why)
	}
	momentIs(t, x, 2)
	sinceIs(t, x, 1, "B1")
	ticked(t, x, 1, 9, 5)
	momentIs(t, x, 3)
	if l, why := x.Window(0); len(l) != 2 || why != api.OK || l[1].Seen != fresh(n(3), 1) || !x.Idle() {
		t.Error(l, why)
	}
	for _, task := range oddTasks() {
		if k, why := x.Tick(task, -1); k != 0 || why != api.ErrTask {
			t.Error(k, why)
		}
	}
	stepsAre(t, x, 1, 0)
}

func TestEmbedded(t *testing.T) { // Promise 19.1, R7: an undo is a watch, a view, tasks, marks, a graph and a book, too: the very ones that it embeds.
	x := settled(t, "A1", "1", "B1", "=A1")
	edited(t, x, "A1", "2")
	undone(t, x)
	if x.Watch.View != x.View || x.View.Tasks != x.Tasks || x.Tasks.Marks != x.Marks || x.Marks.Graph != x.Graph || x.Graph.Book != x.Book {
		t.Error("what is embedded is another one")
	}
	if x.Book.Version() != 3 || x.Book.Text(at("A1")) != "1" || x.Marks.Count() != 1 || x.Tasks.Value(at("B1")) != n(1) || x.Watch.Moment() != 4 {
		t.Error("what is embedded tells another thing")
	}
	if got, why := x.View.Read(at("B1")); got != old(n(1), 1) || why != api.OK {
		t.Error(got, why)
	}
}
