package watch

import (
	"fmt"
	"strings"
	"testing"

	"whittle/api"
	"whittle/view"
)

// many are k names.
func many(k int) []string {
	var l []string
	for i := range k {
		l = append(l, fmt.Sprint("N", i))
	}
	return l
}

func TestNewRefused(t *testing.T) { // Promise 18.1: New is refused as the view's, with no watch.
	for want, lists := range map[api.Errno][][]string{
		api.ErrArg:   {nil, {}},
		api.ErrMany:  {many(api.MaxSheets + 1), make([]string, api.MaxSheets+1), append(many(api.MaxSheets), "N0")},
		api.ErrLatin: {{""}, {"S", "1S"}, {"S", "S\n", "S"}, {strings.Repeat("S", api.MaxName+1)}},
		api.ErrTwice: {{"S", "S"}, {"S", "T", "S", ""}},
	} {
		for _, sheets := range lists {
			x, why := New(sheets...)
			_, too := view.New(sheets...)
			if x != nil || why != want || why != too {
				t.Errorf("New(%q): %v, %d, want %d; the view's %d", sheets, x, why, want, too)
			}
		}
	}
}

func TestNewTaken(t *testing.T) { // Promise 18.1: at first the moment is 0, nothing was touched; all else is a new view's.
	for k := 1; k <= api.MaxSheets; k++ {
		x, why := New(many(k)...)
		if x == nil || why != api.OK {
			t.Fatalf("New of %d names: %d", k, why)
		}
		inner, _ := view.New(many(k)...)
		if tellsView(x) != tellsView(inner) {
			t.Errorf("New of %d names tells %s", k, tellsView(x))
		}
		momentIs(t, x, 0)
		sinceIs(t, x, 0, "")
	}
}

func TestPromoted(t *testing.T) { // Promise 18.1, R7: what a view tells, a watch tells: some of it by hand.
	x := opened(t, "A1", "2", "B1", "=A1+1", "C1", "=C1", "T!A1", "=SUM(S!A1:B1)")
	if x.Version() != 1 || x.Kind(at("B1")) != api.Formula || x.Text(at("B1")) != "=A1+1" || x.Len() != 4 || x.Sheet("U") != 2 || names(x.Cells(1)...) != "T!A1" || x.Constant(at("A1")) != n(2) {
		t.Error(x.Version(), x.Text(at("B1")), x.Len())
	}
	if names(x.Users(at("B1"))...) != "T!A1" || !x.Cyclic(at("C1")) || x.Level(at("T!A1")) != 2 || names(x.Reach(at("A1"))...) != "B1 T!A1" || names(x.Circle(at("C1"))...) != "C1 C1" {
		t.Error(names(x.Users(at("B1"))...), x.Level(at("T!A1")))
	}
	if x.Count() != 2 || !x.Stale(at("T!A1")) || x.Ready(at("T!A1")) || names(x.Last().Stale...) != "B1 T!A1" || names(x.ReadyOf(0)...) != "B1" {
		t.Error(x.Count(), x.Last())
	}
	seen(t, x, 0, "A1:B9")
	ticked(t, x, 0, 1, 1)
	parkedIs(t, x, 0, "B1", 1)
	reads(t, x, "A1", fresh(n(2), 1))
	reads(t, x, "B1", never())
	ticked(t, x, 0, 9, 3)
	if l, why := x.Window(0); len(l) != 2 || why != api.OK || l[1].Seen != fresh(n(3), 1) || x.Idle() {
		t.Error(l, why)
	}
	ticked(t, x, 1, 9, 5)
	if s := x.State(); len(s.Cells) != 4 || s.Cells[3].V != n(5) || !x.Idle() {
		t.Error(s)
	}
}

func TestEmbedded(t *testing.T) { // Promise 18.1, R7: a watch is a view, tasks, marks, a graph and a book, too: the very ones that it embeds.
	x := settled(t, "A1", "1", "B1", "=A1")
	edited(t, x, "C1", "=B1")
	ticked(t, x, 0, 1, 1)
	if x.View.Tasks != x.Tasks || x.Tasks.Marks != x.Marks || x.Marks.Graph != x.Graph || x.Graph.Book != x.Book || x.Book.Version() != 2 || x.Marks.Count() != 1 || x.Tasks.Value(at("B1")) != n(1) {
		t.Error("what is embedded tells another thing")
	}
	if got, why := x.View.Read(at("B1")); got != fresh(n(1), 2) || why != api.OK {
		t.Error(got, why)
	}
}

func TestDoneByOthers(t *testing.T) { // Promise 18.2, 15.4, R7: a Done of others is neither an edit nor a step: it turns no moment; what it turns, edits and steps behind it touch as they do.
	x := opened(t, "A1", "2", "B1", "=A1", "C1", "=B1", "A2", "=A1+1")
	doneIs(t, x, "B1")
	momentIs(t, x, 1)
	touches(t, x, "A1 B1", "A1", "3") // B1 was fresh
	doneIs(t, x, "B1")
	touches(t, x, "A1 B1 C1 A2", "A1", "=C1") // B1 was fresh, the others stale: all are cyclic now
	touches(t, x, "A1 B1 C1 A2", "A1", "4")
	m := x.Moment()
	ticked(t, x, 0, 1, 1)
	parkedIs(t, x, 0, "B1", 1)
	doneIs(t, x, "B1") // its frame goes on, and writes it
	momentIs(t, x, m)
	ticked(t, x, 0, 1, 1)
	momentIs(t, x, m+1)
	sinceIs(t, x, m, "B1")
	reads(t, x, "B1", fresh(n(4), 4))
	doneIs(t, x, "C1")
	ticked(t, x, 0, 99, 4)
	momentIs(t, x, m+2)
	sinceIs(t, x, m, "B1 A2")
	if x.Count() != 0 {
		t.Error(x.Count())
	}
}
