package tasks

import (
	"fmt"
	"strings"
	"testing"

	"whittle/api"
	"whittle/marks"
)

// many are k names.
func many(k int) []string {
	var l []string
	for i := range k {
		l = append(l, fmt.Sprint("N", i))
	}
	return l
}

// wrongSheets are names of which there is no book, with their errors.
func wrongSheets() map[api.Errno][][]string {
	return map[api.Errno][][]string{
		api.ErrArg:   {nil, {}},
		api.ErrMany:  {many(api.MaxSheets + 1), make([]string, api.MaxSheets+1), append(many(api.MaxSheets), "N0")},
		api.ErrLatin: {{""}, {"S", "1S"}, {"S", "S\n", "S"}, {strings.Repeat("S", api.MaxName+1)}},
		api.ErrTwice: {{"S", "S"}, {"S", "T", "S", ""}},
	}
}

func TestNewRefused(t *testing.T) { // Promise 16.1: New is refused as the marks', with no tasks.
	for want, lists := range wrongSheets() {
		for _, sheets := range lists {
			x, why := New(sheets...)
			_, too := marks.New(sheets...)
			if x != nil || why != want || why != too {
				t.Errorf("New(%q): %v, %d, want %d; the marks' %d", sheets, x, why, want, too)
			}
		}
	}
}

func TestNewTaken(t *testing.T) { // Promise 16.1: at first no task has a frame, nobody sees anything; there are as many tasks as sheets.
	for k := 1; k <= api.MaxSheets; k++ {
		x, why := New(many(k)...)
		if x == nil || why != api.OK {
			t.Fatalf("New of %d names: %d", k, why)
		}
		m, _ := marks.New(many(k)...)
		if tellsMarks(x) != tellsMarks(m) {
			t.Errorf("New of %d names tells %s", k, tellsMarks(x))
		}
		abortedIs(t, x, "")
		for task := range k {
			parkedIs(t, x, task, "", 0)
			nextIs(t, x, task, "")
			if len(x.Areas(task)) != 0 {
				t.Error(x.Areas(task))
			}
			ticked(t, x, task, 1<<62, 0)
			if l := traced(t, x, task, api.MaxTrace); len(l) != 0 {
				t.Error(l)
			}
			if why := x.See(task, api.Area{Sheet: task}); why != api.OK {
				t.Error(task, why)
			}
		}
		for _, task := range []int{-1, k} {
			tickRefused(t, x, task, 1, api.ErrTask)
			if why := x.See(task); why != api.ErrTask {
				t.Error(task, why)
			}
		}
		for _, c := range append(strange(), universe()...) {
			if x.Value(c) != blank() {
				t.Error(c, x.Value(c))
			}
		}
	}
}

func TestPromoted(t *testing.T) { // Promise 16.1, R7: what the marks, the graph and the book tell, tasks tell, behind edits and ticks; a tick does what Done does.
	x := opened(t)
	m, _ := marks.New("S", "T", "U")
	for i, l := range [][]string{
		{"A1", "1", "B1", "=A1", "C1", "=SUM(A1:B1)", "A2", "=B2", "B2", "=A2", "T!A1", "=S!C1"},
		{"A1", "'7", "C2", "=A2+C1"},
		{"B1", ""},
		{"B2", "x", "U!A1", "=T!A1+S!C2", "T!IV65536", "=SUM(S!A1:C9)"},
		{"B1", "=U!A1"},
		{"T!A1", "TRUE", "IV65536", "=B1"},
	} {
		edited(t, x, l...)
		if r := m.Edit(puts(l...)...); r.Code != api.OK {
			t.Fatal(r)
		}
		for k := range 20 * i {
			for _, e := range traced(t, x, k%3, 2) {
				if e.Wrote && m.Done(e.Cell) != api.OK {
					t.Fatal(e)
				}
			}
		}
		if one, two := tellsMarks(x), tellsMarks(m); one != two {
			t.Fatalf("tasks tell %s, marks %s", one, two)
		}
	}
	// Some of it by hand: it is the promoted calls' answer, not both's alike.
	if x.Version() != 6 || x.Kind(at("B1")) != api.Formula || x.Text(at("A1")) != "'7" || x.Len() != 10 || names(x.Cells(1)...) != "T!A1 T!IV65536" || x.Sheet("U") != 2 || len(x.Sheets()) != 3 {
		t.Error(x.Version(), x.Text(at("A1")), x.Len(), names(x.Cells(1)...))
	}
	if names(x.Users(at("B1"))...) != "C1 IV65536 T!IV65536" || x.Level(at("U!A1")) != 0 || !x.Cyclic(at("U!A1")) || x.Level(at("A2")) != 1 {
		t.Error(names(x.Users(at("B1"))...), x.Level(at("U!A1")), x.Level(at("A2")))
	}
	if names(x.Circle(at("IV65536"))...) != "B1 C1 C2 U!A1 B1" || names(x.Path(at("B2"), at("U!A1"))...) != "B2 A2 C2 U!A1" || names(x.Reach(at("B2"))...) != "B1 C1 A2 C2 IV65536 T!IV65536 U!A1" {
		t.Error(names(x.Circle(at("IV65536"))...), names(x.Path(at("B2"), at("U!A1"))...))
	}
	if x.Constant(at("A1")) != txt("7") || len(x.Code(at("B1"))) != 2 || len(x.Uses(at("C1"))) != 1 {
		t.Error(x.Constant(at("A1")), x.Code(at("B1")))
	}
	edited(t, x, "U!A1", "5")
	if l := x.Last(); names(l.Stale...) != "B1 C1 C2 IV65536 T!IV65536" || x.Count() != 5 || !x.Stale(at("C1")) || !x.Ready(at("B1")) || names(x.StaleOf(1)...) != "T!IV65536" || names(x.ReadyOf(0)...) != "B1" {
		t.Error(l, x.Count())
	}
}

func TestEmbedded(t *testing.T) { // Promise 16.1, R7: tasks are marks, a graph and a book, too: the very ones that they embed.
	x := settled(t, "A1", "1", "B1", "=A1")
	edited(t, x, "C1", "=B1")
	if x.Marks.Count() != 1 || x.Marks.Graph != x.Graph || x.Graph.Book != x.Book || x.Book.Version() != 2 || x.Marks.Last().Stale[0] != at("C1") {
		t.Error("the marks that are embedded tell another thing")
	}
}

func TestDoneByOthers(t *testing.T) { // Promises 16.5, 16.6, R7: Done is promoted: behind it what is ready is another thing, and so is what comes next.
	x := opened(t, "A1", "=1", "B1", "=A1", "C1", "=B1", "A2", "=2", "T!A1", "=S!A1", "T!B1", "=9")
	seen(t, x, 0, "C1:C9")
	nextIs(t, x, 0, "A1")
	nextIs(t, x, 1, "T!B1")
	if why := x.Done(at("B1")); why != api.ErrReady {
		t.Error(why)
	}
	if why := x.Done(at("A1")); why != api.OK {
		t.Error(why)
	}
	nextIs(t, x, 0, "A2")
	ticked(t, x, 0, 2, 2)
	nextIs(t, x, 0, "B1")
	if why := x.Done(at("B1")); why != api.OK {
		t.Error(why)
	}
	edited(t, x, "A2", "=A1") // an edit between does not hide it
	nextIs(t, x, 0, "C1")
	ticked(t, x, 1, 2, 2)
	valueIs(t, x, "T!B1", n(9))
	nextIs(t, x, 1, "T!A1")
	ticked(t, x, 0, 1, 1)
	if why := x.Done(at("C1")); why != api.OK { // its frame is under way
		t.Error(why)
	}
	nextIs(t, x, 0, "C1")
	ticked(t, x, 0, 9, 3)
	parkedIs(t, x, 0, "", 0)
	ticked(t, x, 1, 9, 2)
	staleAre(t, x, "", "")
	for task := range 3 {
		nextIs(t, x, task, "")
	}
}
