package plain

import (
	"whittle/api"
	"whittle/funcs"
	"whittle/parts"
	"whittle/place"
)

// taker is a fold or search that is not handed the empty cells of areas: they turn nothing but what MATCH counts (7.9).
type taker struct {
	*funcs.Acc
	passed int // how many cells of the last area it has passed, empty ones too
}

// A frame takes a step to open a fold or search, and one to close it.
const opening, closing = 1, 1

// open begins one of a function that has such.
func open(id int) *taker {
	acc, _ := funcs.Open(id)
	return &taker{Acc: acc}
}

// Result is what it comes to, as if the empty cells had been handed to it.
func (t *taker) Result() api.Value {
	v := t.Acc.Result()
	if t.State().Fn == api.FnMatch && v.Kind == api.Number {
		return count(t.passed)
	}
	return v
}

// fold is what a fold comes to.
func (r reckoner) fold(id int, args []parts.Part) (api.Value, int) {
	t, steps := open(id), opening+closing
	for _, arg := range args {
		if arg.IsArea() {
			a := r.Area(arg.Node)
			steps += r.scan(t, a, a)
		} else {
			steps += r.feed(t, arg)
		}
	}
	return t.Result(), steps
}

// search is what a search comes to, with its needle, if it has one, through an area; the partners of its cells stand in another one, or in the same.
func (r reckoner) search(id int, area, partners api.Area, needle []parts.Part) (api.Value, int) {
	t, steps := open(id), opening+closing
	for _, p := range needle {
		steps += r.feed(t, p)
	}
	steps += r.scan(t, area, partners)
	return t.Result(), steps
}

// feed hands over what a part comes to, and tells the steps.
func (r reckoner) feed(t *taker, p parts.Part) int {
	v, steps := r.part(p)
	t.Feed(v)
	return steps + 1
}

// scan hands over an area's cells, and the partners that are wanted, and tells the steps.
func (r reckoner) scan(t *taker, area, partners api.Area) int {
	if t.Full() {
		return 1
	}
	paired := 0
	for k, c := range r.filled.In(area) {
		t.passed = k + 1
		t.Cell(r.Value(c))
		if t.Wants() {
			partner, _ := place.At(partners, k)
			t.Pair(r.Value(partner))
			paired++
		}
		if t.Full() {
			return t.passed + paired
		}
	}
	t.passed = place.Size(area)
	return t.passed + paired
}
