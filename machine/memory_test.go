package machine

import (
	"math/rand"
	"slices"
	"testing"

	"whittle/api"
)

// roomy is a list with spare room behind it, and the whole of it.
func roomy[E any](l []E, room ...E) (some, whole []E) {
	whole = slices.Concat(l, room)
	return whole[:len(l)], whole
}

// written writes over a list, its spare room too.
func written[E any](l []E, with E) {
	l = l[:cap(l)]
	for i := range l {
		l[i] = with
	}
}

// laid is a code with room behind each of its lists, and all of these.
func laid(l []api.Ins) (some, whole []api.Ins, places [][]int) {
	some, whole = roomy(l, store(), push(n(99)))
	for i := range some {
		to, room := roomy(some[i].To, -7, -8)
		some[i].To = to
		places = append(places, room)
	}
	return some, whole, places
}

func clones(lists [][]int) [][]int {
	var all [][]int
	for _, l := range lists {
		all = append(all, slices.Clone(l))
	}
	return all
}

func TestCodesAreNotKept(t *testing.T) { // Promise 9.1, R3: the list handed in, lists in it too, is neither changed nor kept.
	codes(t, 31, 500, func(r *rand.Rand, l []api.Ins, cells sheet) {
		some, whole, places := laid(l)
		was, wasPlaces := slices.Clone(whole), clones(places)
		f, g := begin(t, some...), back(t, some, api.Frame{})
		together(t, begin(t, some...), &model{l: l}, cells, func(s api.Frame) { back(t, some, s) })
		if !equalLists(whole, was) || !slices.EqualFunc(places, wasPlaces, slices.Equal) {
			t.Fatalf("%v was changed", l)
		}
		for i := range places {
			written(places[i], 0)
		}
		written(whole, api.Ins{Op: -1})
		together(t, f, &model{l: l}, cells, func(api.Frame) {})
		together(t, g, &model{l: l}, cells, func(api.Frame) {})
	})
}

func TestStatesAreNotKept(t *testing.T) { // R3: the lists of a state handed in are neither changed, spare room included, nor kept.
	codes(t, 32, 400, func(r *rand.Rand, l []api.Ins, cells sheet) {
		together(t, begin(t, l...), &model{l: l}, cells, func(s api.Frame) {
			want := deepCopy(s)
			values, folds := []api.Value{}, []api.Acc{}
			s.Stack, values = roomy(s.Stack, txt("room"), txt("more"), txt("still more"))
			s.Accs, folds = roomy(s.Accs, begun(api.FnXor), begun(api.FnSum))
			wasValues, wasFolds := slices.Clone(values), slices.Clone(folds)
			f, g := back(t, l, s), back(t, l, s)
			m, _ := modelBack(l, want)
			together(t, f, m, cells, func(api.Frame) {})
			if !slices.Equal(values, wasValues) || !slices.Equal(folds, wasFolds) {
				t.Fatalf("the state %+v was changed", want)
			}
			written(values, txt("over"))
			written(folds, begun(api.FnMax))
			m, _ = modelBack(l, want)
			together(t, g, m, cells, func(api.Frame) {})
		})
	})
}

func TestStatesAreNewMemory(t *testing.T) { // Promise 9.5, R3: what State answers shares nothing, spare room too, with the frame nor with what it answers again.
	codes(t, 33, 400, func(r *rand.Rand, l []api.Ins, cells sheet) {
		f := begin(t, l...)
		together(t, f, &model{l: l}, cells, func(s api.Frame) {
			want, again := deepCopy(s), f.State()
			written(s.Stack, txt("over"))
			written(s.Accs, begun(api.FnMax))
			if !same(again, want) {
				t.Fatalf("two states at %+v share memory", want)
			}
			standing(t, f, want)
			g := back(t, l, want)
			written(g.State().Stack, txt("over"))
			written(g.State().Accs, begun(api.FnMax))
			standing(t, g, want)
		})
	})
}

func TestRefusedTurnsNothing(t *testing.T) { // R5: a Back that is refused has changed nothing.
	l := flat(t, "SUM(A1:A3)+1")
	f := begin(t, l...)
	step(t, f, blank, n(1))
	s := f.State()
	refused(t, l, turn(s, func(s *api.Frame) { s.Scans = 3 }), api.ErrState)
	refused(t, l[1:], s, api.ErrCode)
	standing(t, f, s)
	takes(t, l, s)
}
