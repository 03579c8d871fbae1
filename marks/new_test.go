package marks

import (
	"fmt"
	"strings"
	"testing"

	"whittle/api"
	"whittle/graph"
)

// many are n names.
func many(n int) []string {
	var l []string
	for i := range n {
		l = append(l, fmt.Sprint("N", i))
	}
	return l
}

// wrongSheets are names of which there is no book, with their errors.
func wrongSheets() map[api.Errno][][]string {
	return map[api.Errno][][]string{
		api.ErrArg:   {nil, {}},
		api.ErrMany:  {many(api.MaxSheets + 1), make([]string, api.MaxSheets+1), append(many(api.MaxSheets), "N0")},
		api.ErrLatin: {{""}, {"S", "1S"}, {"S", "S\n", "S"}, {strings.Repeat("S", api.MaxName+1)}},
		api.ErrTwice: {{"S", "S"}, {"S", "T", "S", ""}},
	}
}

func TestNewRefused(t *testing.T) { // Promise 15.1: New is refused as the graph's, with no marks.
	for want, lists := range wrongSheets() {
		for _, sheets := range lists {
			m, why := New(sheets...)
			_, too := graph.New(sheets...)
			if m != nil || why != want || why != too {
				t.Errorf("New(%q): %v, %d, want %d; the graph's %d", sheets, m, why, want, too)
			}
		}
	}
}

func TestNewTaken(t *testing.T) { // Promises 15.1, 15.2: at first nothing is stale, and Last tells nothing.
	for n := 1; n <= api.MaxSheets; n++ {
		m, why := New(many(n)...)
		if m == nil || why != api.OK {
			t.Fatalf("New of %d names: %d", n, why)
		}
		g, _ := graph.New(many(n)...)
		if tellsGraph(m) != tellsGraph(g) {
			t.Errorf("New of %d names tells %s", n, tellsGraph(m))
		}
		are(t, m, "", "")
		lastIs(t, m, "", "")
		notReady(t, m, append(strange(), universe()...)...)
	}
}

func TestPromoted(t *testing.T) { // Promise 15.1: what the graph and its book tell, marks tell, behind edits of marks and whatever was done.
	m := opened(t)
	g, _ := graph.New("S", "T", "U")
	for i, l := range [][]string{
		{"A1", "1", "B1", "=A1", "C1", "=SUM(A1:B1)", "A2", "=B2", "B2", "=A2", "T!A1", "=S!C1"},
		{"A1", "'7", "C2", "=A2+C1"},
		{"B1", ""},
		{"B2", "x", "U!A1", "=T!A1+S!C2", "T!IV65536", "=SUM(S!A1:IV65536)"},
		{"B1", "=U!A1"},
		{"T!A1", "TRUE", "IV65536", "=B1"},
	} {
		edited(t, m, l...)
		if r := g.Edit(puts(l...)...); r.Code != api.OK {
			t.Fatal(r)
		}
		if i%2 == 0 {
			settle(t, m)
		}
		if one, two := tellsGraph(m), tellsGraph(g); one != two {
			t.Fatalf("marks tell %s, a graph %s", one, two)
		}
	}
	// Some of it by hand: it is the promoted calls' answer, not both's alike.
	if m.Version() != 6 || m.Kind(at("B1")) != api.Formula || m.Text(at("A1")) != "'7" || m.Len() != 10 || names(m.Cells(1)) != "T!A1 T!IV65536" || m.Sheet("U") != 2 {
		t.Error(m.Version(), m.Text(at("A1")), m.Len(), names(m.Cells(1)))
	}
	if names(m.Users(at("B1"))) != "C1 IV65536 T!IV65536" || m.Level(at("U!A1")) != 0 || !m.Cyclic(at("U!A1")) || m.Cyclic(at("A2")) || m.Level(at("A2")) != 1 {
		t.Error(names(m.Users(at("B1"))), m.Level(at("U!A1")), m.Level(at("A2")))
	}
	if names(m.Circle(at("IV65536"))) != "B1 C1 C2 U!A1 B1" || names(m.Path(at("B2"), at("U!A1"))) != "B2 A2 C2 U!A1" || names(m.Reach(at("B2"))) != "B1 C1 A2 C2 IV65536 T!IV65536 U!A1" {
		t.Error(names(m.Circle(at("IV65536"))), names(m.Path(at("B2"), at("U!A1"))), names(m.Reach(at("B2"))))
	}
	if m.Constant(at("A1")) != (api.Value{Kind: api.Text, Text: "7"}) || len(m.Code(at("B1"))) != 2 || len(m.Uses(at("C1"))) != 1 || len(m.Sheets()) != 3 {
		t.Error(m.Constant(at("A1")), m.Code(at("B1")), m.Uses(at("C1")))
	}
}

func TestEmbedded(t *testing.T) { // Promise 15.1, R7: marks are a graph and a book, too: the very ones that they embed.
	m := settled(t, "A1", "1", "B1", "=A1")
	if m.Graph.Text(at("A1")) != "1" || m.Graph.Book.Version() != 1 || m.Book != m.Graph.Book || names(m.Graph.Users(at("A1"))) != "B1" {
		t.Error("the graph that is embedded tells another thing")
	}
}
