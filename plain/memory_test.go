package plain

import (
	"math/rand"
	"slices"
	"testing"

	"whittle/api"
	"whittle/graph"
)

// roomy is a list with spare room in which something stands, and the whole of it.
func roomy[E any](l []E, spare ...E) (short, whole []E) {
	whole = append(slices.Clone(l), spare...)
	return whole[:len(l)], whole
}

// fill writes over a list, its spare room too.
func fill[E any](l []E, with E) {
	l = l[:cap(l)]
	for i := range l {
		l[i] = with
	}
}

func TestEvalHandedIn(t *testing.T) { // R3: nodes and names are not changed, spare room included, and not kept.
	books(t, 141, 40, func(r *rand.Rand, g *graph.Graph) {
		p := Of(g)
		was := told(p, g)
		for range 20 {
			home := universe()[r.Intn(len(universe()))]
			l := maker{r, home}.right(2 + r.Intn(4))
			some, whole := roomy(l, api.Node{Name: "ROOM"}, api.Node{Name: "ROOM"}, api.Node{Name: "ROOM"})
			sheets, all := roomy(names, "ROOM", "ROOM")
			nodes, texts := slices.Clone(whole), slices.Clone(all)
			v, steps, _ := p.Eval(some, home, sheets...)
			if !slices.Equal(whole, nodes) || !slices.Equal(all, texts) {
				t.Fatalf("what was handed in with %s was changed", text(l))
			}
			fill(whole, api.Node{Kind: api.NodeValue, V: n(99)})
			fill(all, "OVER")
			if w, again, _ := p.Eval(l, home, names...); w != v || again != steps || told(p, g) != was {
				t.Fatalf("what was handed in with %s is kept", text(l))
			}
		}
	})
}

func TestRefusedHandedIn(t *testing.T) { // R3: of what is refused, too.
	p := fixture(t)
	some, whole := roomy(row(t, "IF(TRUE,1,F(A1))"), api.Node{Name: "ROOM"})
	sheets, all := roomy(names, "ROOM")
	nodes, texts := slices.Clone(whole), slices.Clone(all)
	for _, home := range []api.Cell{{}, {Sheet: 9}, {Row: -1}} {
		p.Eval(some, home, sheets...)
		p.Eval(some[1:], home, sheets...)
		p.Eval(some, home, sheets[:1]...)
		if !slices.Equal(whole, nodes) || !slices.Equal(all, texts) {
			t.Fatal(whole, all)
		}
	}
}

func TestGraphIsNotTurned(t *testing.T) { // R4: Of and Eval turn nothing of the graph, and what the graph tells may be written over.
	books(t, 142, 30, func(r *rand.Rand, g *graph.Graph) {
		texts, version := held(g), g.Version()
		p := Of(g)
		was := told(p, g)
		for sheet := range names {
			fill(g.Cells(sheet), api.Cell{Row: 9})
		}
		fill(g.Sheets(), "OVER")
		for _, c := range cellsOf(g) {
			fill(g.Uses(c), api.Area{Sheet: 2})
			fill(g.Code(c), api.Ins{})
		}
		p.Eval(maker{r, api.Cell{}}.right(4), api.Cell{}, names...)
		if !slices.Equal(held(g), texts) || g.Version() != version || told(p, g) != was {
			t.Fatal("something of the graph or of its values was turned")
		}
	})
}

func TestNothingInCommon(t *testing.T) { // R4: two of one graph, and of two graphs, tell each by itself, in whatever order they are asked.
	g, other := opened(t, "A1", "2", "B1", "=A1*3"), opened(t, "A1", "5", "B1", "=A1*3")
	one, two, three := Of(g), Of(g), Of(other)
	if told(one, g) != told(two, g) {
		t.Error("two of one graph tell unlike things")
	}
	taken(t, g, puts("A1", "7")...)
	four := Of(g)
	for range 3 {
		evals(t, three, "SUM(A1:B1)", "20", 5)
		evals(t, one, "SUM(A1:B1)", "8", 5)
		evals(t, four, "SUM(A1:B1)", "28", 5)
		evals(t, two, "SUM(A1:B1)", "8", 5)
	}
}

func TestAskedTwice(t *testing.T) { // R4: asked again, behind other questions, all is told as ahead.
	books(t, 143, 30, func(r *rand.Rand, g *graph.Graph) {
		p := Of(g)
		was := told(p, g)
		for range 10 {
			l := maker{r, api.Cell{Sheet: 2, Row: 5}}.right(4)
			v, steps, why := p.Eval(l, api.Cell{Sheet: 2, Row: 5}, names...)
			p.Eval(l, api.Cell{}, "T", "S", "U")
			w, again, still := p.Eval(l, api.Cell{Sheet: 2, Row: 5}, names...)
			if v != w || steps != again || why != still {
				t.Fatalf("Eval(%s): %s in %d, then %s in %d", text(l), shown(v), steps, shown(w), again)
			}
		}
		if told(p, g) != was || told(Of(g), g) != was {
			t.Fatal("asked again it tells otherwise")
		}
	})
}
