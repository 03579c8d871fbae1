package lean

import (
	"math/rand"
	"slices"
	"strings"
	"testing"

	"whittle/api"
	"whittle/code"
	"whittle/machine"
	"whittle/tree"
)

// formulas calls it with very many formulas that code.Flatten takes, and their homes.
func formulas(t *testing.T, seed int64, many int, it func(r *rand.Rand, l []api.Node, home api.Cell)) {
	t.Helper()
	r := rand.New(rand.NewSource(seed))
	taken := 0
	for range many {
		l, home := someFormula(r, 2+r.Intn(4)), api.Cell{Sheet: r.Intn(2), Row: 9, Col: r.Intn(3)}
		if _, why := code.Flatten(l, home, "S", "T"); why == api.OK {
			taken++
			it(r, l, home)
		}
	}
	if taken < many/2 {
		t.Error("just", taken, "formulas of", many)
	}
}

func text(l []api.Node) string {
	s, _ := tree.Print(l)
	return s
}

// flat is the lean code of a formula that code.Flatten takes.
func flat(t *testing.T, l []api.Node, home api.Cell) []api.Ins {
	t.Helper()
	list, why := Flatten(l, home, "S", "T")
	if why != api.OK {
		t.Fatalf("Flatten of %s: %d", text(l), why)
	}
	return list
}

func TestAgainstTheModel(t *testing.T) { // Promises 10.1 to 10.3, of very many formulas.
	settled, kinds, shorter := 0, map[int]int{}, 0
	formulas(t, 101, 15000, func(r *rand.Rand, l []api.Node, home api.Cell) {
		m := model{l, home.Sheet, []string{"S", "T"}}
		want, is := m.settled(0)
		if v, ok := Const(l, home, "S", "T"); v != want || ok != is {
			t.Fatalf("Const of %s is %s, %t, not %s, %t", text(l), shown(v), ok, shown(want), is)
		}
		got, whole := flat(t, l, home), m.whole()
		if !same(got, whole) {
			t.Fatalf("Flatten of %s is\n%s, not\n%s", text(l), told(got), told(whole))
		}
		ever, _ := code.Flatten(l, home, "S", "T")
		switch {
		case is:
			settled++
			kinds[want.Kind]++
		case len(got) < len(ever):
			shorter++
		}
	})
	if settled < 2000 || shorter < 1000 {
		t.Error("just", settled, "are settled,", shorter, "have shorter codes")
	}
	for kind := api.Number; kind <= api.Fault; kind++ {
		if kinds[kind] < 40 {
			t.Error("just", kinds[kind], "are settled at the Kind", kind)
		}
	}
	// A formula has no Blank in it, and nothing makes one of what it has.
	if kinds[api.Blank] > 0 {
		t.Error(kinds[api.Blank], "are settled at Blank")
	}
}

// cells are those of a book, each at any value, always the same.
type cells struct {
	r *rand.Rand
	v map[api.Cell]api.Value
}

func (c cells) of(at api.Cell) api.Value {
	vs := []api.Value{blank, blank, n(0), n(1), n(2), n(3), n(-1), part(1, 2), n(api.MaxNum), txt(""), txt("a"), txt("1"), txt("TRUE"), truth(true), truth(false), bad(api.FaultNA), bad(api.FaultRef)}
	if _, ok := c.v[at]; !ok {
		c.v[at] = vs[c.r.Intn(len(vs))]
	}
	return c.v[at]
}

// run is a code's run to its end: what it comes to, in how many steps, and the cells that it asked for.
func run(t *testing.T, l []api.Ins, c cells) (api.Value, int, []api.Cell) {
	t.Helper()
	f, why := machine.New(l)
	if why != api.OK {
		t.Fatalf("%s is no code", told(l))
	}
	var asked []api.Cell
	for !f.Done() {
		v := blank
		if at, ok := f.Wants(); ok {
			asked, v = append(asked, at), c.of(at)
		}
		f.Step(v)
	}
	v, _ := f.Result()
	return v, f.Steps(), asked
}

// runsAlike holds that a formula's lean code comes to what its code comes to, in no more steps, and asks for no other cell; it tells by how many steps it is shorter.
func runsAlike(t *testing.T, l []api.Node, home api.Cell, c cells) int {
	t.Helper()
	list := flat(t, l, home)
	ever, _ := code.Flatten(l, home, "S", "T")
	want, most, may := run(t, ever, c)
	v, steps, asked := run(t, list, c)
	if v != want || steps > most {
		t.Fatalf("the lean code of %s comes to %s in %d steps, not to %s in %d", text(l), shown(v), steps, shown(want), most)
	}
	for _, at := range asked {
		if !slices.Contains(may, at) {
			t.Fatalf("the lean code of %s asks for %v, its code does not", text(l), at)
		}
	}
	if k, ok := Const(l, home, "S", "T"); ok && (k != v || steps != 2 || len(asked) > 0) {
		t.Fatalf("%s is settled at %s, but comes to %s in %d steps", text(l), shown(k), shown(v), steps)
	}
	return most - steps
}

func TestRunsAlike(t *testing.T) { // Promises 10.4, 10.5: it is a code, and comes to the same over cells of every kind.
	fewer, not := 0, 0
	formulas(t, 104, 5000, func(r *rand.Rand, l []api.Node, home api.Cell) {
		if list := flat(t, l, home); code.Check(list) != api.OK {
			t.Fatalf("the lean code of %s, %s, is none", text(l), told(list))
		}
		for range 4 {
			if runsAlike(t, l, home, cells{r, map[api.Cell]api.Value{}}) > 0 {
				fewer++
			} else {
				not++
			}
		}
	})
	if fewer < 2000 || not < 2000 {
		t.Error("just", fewer, "runs in fewer steps,", not, "in as many")
	}
}

func TestUsesNoOther(t *testing.T) { // Promise 10.4: it asks for no other cell: what it may read is in what its code may read.
	formulas(t, 105, 5000, func(r *rand.Rand, l []api.Node, home api.Cell) {
		list := flat(t, l, home)
		ever, _ := code.Flatten(l, home, "S", "T")
		may := code.Uses(ever)
		for _, a := range code.Uses(list) {
			within := func(b api.Area) bool {
				return a.Sheet == b.Sheet && a.Top >= b.Top && a.Left >= b.Left && a.Bottom <= b.Bottom && a.Right <= b.Right
			}
			if !slices.ContainsFunc(may, within) {
				t.Fatalf("the lean code of %s uses %v, its code uses %v", text(l), a, may)
			}
		}
		_, most := code.Bounds(list)
		if _, high := code.Bounds(ever); most > high {
			t.Fatalf("the lean code of %s takes up to %d steps, its code %d", text(l), most, high)
		}
	})
}

// without is a formula in which each cell, and each fold's area, became a value.
func without(r *rand.Rand, l []api.Node) []api.Node {
	l = slices.Clone(l)
	for i, node := range l {
		if node.Kind == api.NodeCell || node.Kind == api.NodeArea {
			l[i] = api.Node{Kind: api.NodeValue, V: n(r.Intn(4))}
		}
	}
	return l
}

func TestWithoutCellsAllIsSettled(t *testing.T) { // Promise 10.5: a formula without cells and areas is settled.
	settled := 0
	formulas(t, 106, 8000, func(r *rand.Rand, l []api.Node, home api.Cell) {
		l = without(r, l)
		ever, why := code.Flatten(l, home, "S", "T")
		if why != api.OK {
			return // a function that asks for an area
		}
		settled++
		v, ok := Const(l, home, "S", "T")
		if want, _, _ := run(t, ever, cells{}); v != want || !ok {
			t.Fatalf("Const of %s is %s, %t, not %s", text(l), shown(v), ok, shown(want))
		}
		if list := flat(t, l, home); !same(list, []api.Ins{{Op: api.InsPush, V: v}, {Op: api.InsStore}}) {
			t.Fatalf("the lean code of %s is %s", text(l), told(list))
		}
	})
	if settled < 1000 {
		t.Error("just", settled, "formulas without cells")
	}
}

func TestAgain(t *testing.T) { // R4: asked twice it is the same, wherever in its sheet the formula stands.
	formulas(t, 107, 2000, func(r *rand.Rand, l []api.Node, home api.Cell) {
		list := flat(t, l, home)
		v, ok := Const(l, home, "S", "T")
		home.Row, home.Col = r.Intn(api.MaxRows), r.Intn(api.MaxCols)
		if again := flat(t, l, home); !same(list, again) {
			t.Fatalf("Flatten of %s is %s, then %s", text(l), told(list), told(again))
		}
		if w, also := Const(l, home, "S", "T"); w != v || also != ok {
			t.Fatalf("Const of %s is %s, %t, then %s, %t", text(l), shown(v), ok, shown(w), also)
		}
	})
}

func TestGreatestFormulas(t *testing.T) { // R1, promises 10.3 to 10.5: MaxNodes nodes, and as deep as may be.
	sums := "SUM(1" + strings.Repeat(",1", 29) + ")" // 31 nodes
	eight := strings.Repeat(sums+",", 8)
	constAt(t, "SUM("+eight+"1,1,1,1,1,1,1)", n(247))
	leanIs(t, "SUM("+eight+"1,1,1,1,1,1,A1)", "open 1; "+strings.Repeat("push 30; feed; ", 8)+strings.Repeat("push 1; feed; ", 6)+"load A1; feed; close; store")
	settled, not := "1", "A1"
	for i := range api.MaxDeep - 2 {
		form := []string{"IF(2,%,B1)", "IFERROR(1/0,%)", "CHOOSE(2,A1,%,B1)", "IF(0,B1,%)"}[i%4]
		settled, not = strings.ReplaceAll(form, "%", settled), strings.ReplaceAll(form, "%", not)
	}
	constAt(t, settled, n(1))
	leanIs(t, not, "load A1; store")
	leanIs(t, "-"+not, "load A1; un 1; store")
	deep := "A1"
	for i := range api.MaxDeep - 2 {
		deep = []string{"IF(" + deep + ",1+1)", "IFERROR(" + deep + ",2*3)", "CHOOSE(B1,1-2," + deep + ",7)", "SUM(A1:A2,1/2," + deep + ")", "INDEX(A1:B2," + deep + ",1+1)"}[i%5]
	}
	l := row(t, deep)
	if list, want := flat(t, l, home), (model{l, 0, []string{"S", "T"}}).whole(); !same(list, want) {
		t.Fatalf("Flatten of %s is %s, not %s", deep, told(list), told(want))
	}
}
