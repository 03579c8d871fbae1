package lean

import (
	"math/rand"
	"slices"
	"testing"

	"whittle/api"
)

// roomy is a list with spare room in which something stands, and the whole of it.
func roomy[E any](l []E, spare ...E) (short, whole []E) {
	whole = append(slices.Clone(l), spare...)
	return whole[:len(l)], whole
}

// fill writes over a list, its spare room too.
func fill[E any](l []E, with E) {
	l = l[:cap(l)]
	for i := range l {
		l[i] = with
	}
}

// copied is the same list in memory of its own.
func copied(l []api.Ins) []api.Ins {
	l = slices.Clone(l)
	for i := range l {
		l[i].To = slices.Clone(l[i].To)
	}
	return l
}

func TestHandedInStays(t *testing.T) { // R3: what is handed in is not changed, spare room included, and not kept.
	formulas(t, 131, 3000, func(r *rand.Rand, l []api.Node, home api.Cell) {
		some, whole := roomy(l, api.Node{Name: "ROOM"}, api.Node{Name: "ROOM"})
		names, all := roomy([]string{"S", "T"}, "ROOM", "ROOM")
		was, wasNames := slices.Clone(whole), slices.Clone(all)
		list, _ := Flatten(some, home, names...)
		v, _ := Const(some, home, names...)
		if !slices.Equal(whole, was) || !slices.Equal(all, wasNames) {
			t.Fatalf("what was handed in with %s was changed", text(l))
		}
		want, wantV := copied(list), v
		fill(whole, api.Node{Kind: api.NodeValue, V: n(99)})
		fill(all, "OVER")
		if !same(list, want) || v != wantV {
			t.Fatalf("what was handed in with %s is kept", text(l))
		}
		if again := flat(t, l, home); !same(again, want) {
			t.Fatalf("the lean code of %s is %s, then %s", text(l), told(want), told(again))
		}
	})
}

func TestAnswersAreNewMemory(t *testing.T) { // R3: no two lists share any, spare room too, in one answer nor in two.
	chooses := 0
	formulas(t, 132, 3000, func(r *rand.Rand, l []api.Node, home api.Cell) {
		one, two := flat(t, l, home), flat(t, l, home)
		want := copied(two)
		for i := range one {
			// Each list by itself: the others of the same answer must stay.
			rest := copied(one)
			fill(one[i].To, -9)
			for k := range one {
				if k != i && !slices.Equal(one[k].To, rest[k].To) {
					t.Fatalf("two lists in the lean code of %s share memory", text(l))
				}
			}
			if len(one[i].To) > 0 {
				chooses++
			}
		}
		fill(one, api.Ins{Op: -1})
		if !same(two, want) || !same(flat(t, l, home), want) {
			t.Fatalf("two lean codes of %s share memory", text(l))
		}
	})
	if chooses < 100 {
		t.Error("just", chooses, "lists in lists")
	}
}
