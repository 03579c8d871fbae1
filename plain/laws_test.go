package plain

import (
	"math/rand"
	"slices"
	"testing"

	"whittle/api"
	"whittle/code"
	"whittle/graph"
	"whittle/tree"
)

func TestAgainstTheModel(t *testing.T) { // Promises 13.1 to 13.3, of very many books: each cell, and formulas over them.
	kinds, cyclic, formulas := map[int]int{}, 0, 0
	books(t, 131, 500, func(r *rand.Rand, g *graph.Graph) {
		p, m := Of(g), modelOf(g)
		sum := 0
		for _, c := range universe() {
			want, cost := m.value(c)
			if v := p.Value(c); v != want || p.Cost(c) != cost {
				t.Fatalf("%v with %s: %s, cost %d; want %s, %d", c, g.Text(c), shown(v), p.Cost(c), shown(want), cost)
			}
			sum += cost
			cyclic += m.cyclic[c]
			if cost > 0 {
				formulas++
				kinds[want.Kind]++
			}
		}
		if p.Total() != sum {
			t.Fatalf("Total: %d, want %d", p.Total(), sum)
		}
		for range 20 {
			home := universe()[r.Intn(len(universe()))]
			l := maker{r, home}.right(2 + r.Intn(4))
			want, cost := asked{m, l, home.Sheet, names}.whole()
			if v, steps, why := p.Eval(l, home, names...); v != want || steps != cost || why != api.OK {
				t.Fatalf("Eval(%s): %s in %d steps, %d; want %s in %d", text(l), shown(v), steps, why, shown(want), cost)
			}
		}
	})
	if cyclic < 500 || formulas < 5000 {
		t.Error("just", cyclic, "cyclic formulas,", formulas, "others")
	}
	for kind := api.Blank; kind <= api.Fault; kind++ {
		if kinds[kind] < 100 {
			t.Error("just", kinds[kind], "formulas come to the Kind", kind)
		}
	}
}

func TestTheMachineIsTheFormula(t *testing.T) { // Promise 13.4, W7: the code of each formula, run over these values, comes to the same in as many steps, within its bounds.
	books(t, 134, 400, func(r *rand.Rand, g *graph.Graph) {
		p := Of(g)
		codesComeTo(t, g, p)
		for range 30 {
			home := universe()[r.Intn(len(universe()))]
			l := maker{r, home}.right(2 + r.Intn(4))
			v, steps, why := p.Eval(l, home, names...)
			list, _ := code.Flatten(l, home, names...)
			runsSo(t, list, p, v, steps)
			if t.Failed() {
				t.Fatalf("Eval(%s): %s in %d steps, %d", text(l), shown(v), steps, why)
			}
		}
	})
}

func TestEachComesToItsValue(t *testing.T) { // Promise 13.5: each formula, but of cyclic cells, comes to its cell's value, in its cost.
	books(t, 135, 200, func(r *rand.Rand, g *graph.Graph) {
		p := Of(g)
		for _, c := range cellsOf(g) {
			if g.Kind(c) != api.Formula || g.Cyclic(c) {
				continue
			}
			l, _, _ := tree.Parse(g.Text(c)[1:])
			if v, steps, why := p.Eval(l, c, names...); v != p.Value(c) || steps != p.Cost(c) || why != api.OK {
				t.Fatalf("%v with %s: %s in %d, by Eval %s in %d, %d", c, g.Text(c), shown(p.Value(c)), p.Cost(c), shown(v), steps, why)
			}
		}
	})
}

func TestTheOnlyValues(t *testing.T) { // Promise 13.5: whoever works formulas out by rising levels, over what was found so, finds these values.
	books(t, 136, 200, func(r *rand.Rand, g *graph.Graph) {
		p, alone := Of(g), &Values{found: map[api.Cell]finding{}}
		cells := cellsOf(g)
		slices.SortStableFunc(cells, func(a, b api.Cell) int { return g.Level(a) - g.Level(b) })
		for _, c := range cells {
			x := finding{v: g.Constant(c)}
			switch {
			case g.Cyclic(c):
				x.v = bad(api.FaultCircle)
			case g.Kind(c) == api.Formula:
				x.v, x.cost = run(t, g.Code(c), alone)
			}
			alone.found[c] = x
		}
		if told(p, g) != told(alone, g) {
			t.Fatalf("values\n%s, found by levels\n%s", told(p, g), told(alone, g))
		}
	})
}

func TestLaidByOtherEdits(t *testing.T) { // Promise 13.5: the same texts, the same values and costs: laid cell by cell, in any order, over other contents, restored.
	r := rand.New(rand.NewSource(137))
	for range 60 {
		l := randomTexts(r)
		g := opened(t)
		taken(t, g, l...)
		want := told(Of(g), g)
		mixed := slices.Clone(l)
		r.Shuffle(len(mixed), func(i, k int) { mixed[i], mixed[k] = mixed[k], mixed[i] })
		singly, over := opened(t), opened(t)
		taken(t, over, randomTexts(r)...)
		for _, c := range universe() {
			if !slices.ContainsFunc(l, func(x api.Change) bool { return x.Cell == c }) {
				taken(t, over, api.Change{Cell: c})
			}
		}
		for _, change := range mixed {
			taken(t, singly, change)
		}
		taken(t, over, mixed...)
		restored, why := graph.Restore(api.State{Sheets: names, Version: 9, Cells: held(g)})
		if why != api.OK {
			t.Fatal(why)
		}
		for _, other := range []*graph.Graph{singly, over, restored, g} {
			if got := told(Of(other), g); got != want {
				t.Fatalf("%s, not %s", got, want)
			}
		}
	}
}

func TestEditByEdit(t *testing.T) { // Promise 13.1, R4: what each edit leaves; values that were told ahead stay.
	r := rand.New(rand.NewSource(138))
	g := opened(t)
	var old *Values
	var was string
	all, _ := graph.New(names...)
	for _, c := range universe() {
		taken(t, all, api.Change{Cell: c, Text: "1"})
	}
	for range 300 {
		c := universe()[r.Intn(len(universe()))]
		taken(t, g, api.Change{Cell: c, Text: maker{r, c}.contents()})
		if old != nil && told(old, all) != was {
			t.Fatal("an edit turned what was told ahead of it")
		}
		p, m := Of(g), modelOf(g)
		for _, c := range universe() {
			if v, cost := m.value(c); p.Value(c) != v || p.Cost(c) != cost {
				t.Fatalf("%v with %s: %s, cost %d; want %s, %d", c, g.Text(c), shown(p.Value(c)), p.Cost(c), shown(v), cost)
			}
		}
		old, was = p, told(p, all)
	}
}
