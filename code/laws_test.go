package code

import (
	"math/rand"
	"slices"
	"testing"

	"whittle/api"
	"whittle/tree"
)

// rights calls it with very many formulas that Flatten takes, and their codes.
func rights(t *testing.T, many int, it func(l []api.Node, code []api.Ins)) {
	t.Helper()
	r := rand.New(rand.NewSource(87))
	good := 0
	for range many {
		l := anyFormula(r, 2+r.Intn(4))
		if code, why := Flatten(l, api.Cell{}, "S", "T"); why == api.OK {
			good++
			it(l, code)
		}
	}
	if good < many/3 {
		t.Error("just", good, "formulas of", many)
	}
}

func TestFlattenAnswersCodes(t *testing.T) { // Promise 8.7: of each formula; InsStore is its last one.
	rights(t, 5000, func(l []api.Node, code []api.Ins) {
		isCode(t, code...)
		least, most := Bounds(code)
		if least < 2 || least > most || least > len(code) {
			t.Fatalf("Bounds of %s is %d, %d", told(code), least, most)
		}
	})
}

func TestOperationOverTwo(t *testing.T) { // Promise 8.7: codes one behind the other, places further on.
	var last []api.Node
	var lastCode []api.Ins
	rights(t, 2000, func(l []api.Node, code []api.Ins) {
		if last != nil {
			both := slices.Concat([]api.Node{{Kind: api.NodeBin, Op: api.OpMul}}, last, l)
			want := after(lastCode[:len(lastCode)-1], code[:len(code)-1], []api.Ins{{Op: api.InsBin, A: api.OpMul}, store()})
			got, why := Flatten(both, api.Cell{}, "S", "T")
			if tree.Check(both) == api.OK && (why != api.OK || told(got) != told(want)) {
				t.Fatalf("%s over %s and %s", told(got), told(lastCode), told(code))
			}
			a, b := Bounds(lastCode)
			c, d := Bounds(code)
			if why == api.OK {
				bounded(t, got, a+c, b+d)
			}
		}
		last, lastCode = l, code
	})
}

func TestUsesAreTheFormulas(t *testing.T) { // Promise 8.8: just the cells and areas in it, but those in ROWS and COLUMNS.
	uses := 0
	rights(t, 5000, func(l []api.Node, code []api.Ins) {
		m := model{l, 0, []string{"S", "T"}}
		counted := map[int]bool{}
		for i, node := range l {
			if node.Name == "ROWS" || node.Name == "COLUMNS" {
				counted[i+1] = true
			}
		}
		want := map[api.Area]bool{}
		for i, node := range l {
			switch {
			case node.Kind == api.NodeCell:
				want[api.Area{Sheet: m.sheet(node.A.Sheet), Top: node.A.Row, Left: node.A.Col, Bottom: node.A.Row, Right: node.A.Col}] = true
			case node.Kind == api.NodeArea && !counted[i]:
				want[m.area(i)] = true
			}
		}
		got := Uses(code)
		for _, a := range got {
			if !want[a] {
				text, _ := tree.Print(l)
				t.Fatalf("%s uses %v, which is not in it", text, a)
			}
		}
		if len(got) != len(want) {
			text, _ := tree.Print(l)
			t.Fatalf("%s uses %v, of %v", text, got, want)
		}
		uses += len(got)
	})
	if uses < 5000 {
		t.Error("just", uses, "areas")
	}
}

func TestSameAnswerAgain(t *testing.T) { // R4: what is answered hangs on the arguments alone.
	rights(t, 500, func(l []api.Node, code []api.Ins) {
		again, _ := Flatten(l, api.Cell{Row: 77, Col: 7}, "S", "T")
		if told(again) != told(code) {
			t.Fatalf("%s, then %s", told(code), told(again))
		}
		if !slices.Equal(Uses(code), Uses(again)) {
			t.Fatalf("%v, then %v", Uses(code), Uses(again))
		}
	})
}
